/- What is proved: strings.Cut at a separator of one byte, of texts of any length. -/
import Derived.Test.YtfhaiklfbnfdlaaDoorNoCu
import Derived.Shelf.Strings.Search1
import Derived.Deep.DeepCutAuto
namespace Go.Proofs.YtfhaiklfbnfdlaaDoor
open Go.RowKit

shelf_lay Lays.n217 Nm 217 at Tryd as Tryd.laysIX
def ixL (c : UInt8) (l : List UInt8) : Int := if lead (fun b => b != c) l = l.length then (-1 : Int) else ((lead (fun b => b != c) l : Nat) : Int)
theorem ix_any (l : List UInt8) (c : UInt8) (w : World) : Calls Tryd.prog 100 #[tx l, .int .u8 (c.toNat : Int)] w fun e w' => e = .returned (.int .i64 (ixL c l)) ∧ w' = w := by
  have h := Any.stringslite_IndexByte Tryd.laysIX ⟨l.toArray⟩ (c.toNat : Int) w
  have e : (c.toNat : Int).toNat.toUInt8 = c := by simp
  rw [e, index_lead] at h
  exact h
set_option maxRecDepth 100000 in
theorem index_one (l : List UInt8) (c : UInt8) (w : World) : Calls Tryd.prog 94 #[tx l, tx [c]] w fun e w' => e = .returned (.int .i64 (ixL c l)) ∧ w' = w := by
  have HI : Hid (∀ w, _) := ix_any l c
  have hix : ∀ w, (Instr.index 9 (tx [c]) (.int .i64 0)).run Tryd.prog w = _ := idx_tx (i := 0) rfl
  have hl1 : (((⟨[c].toArray⟩ : ByteArray).size : Nat) : Int) = 1 := by rw [sz]; rfl
  by_cases he : [c] = l
  · subst he
    have R : Hid (ixL c [c] = 0) := by show _ = _; unfold ixL; simp [lead]
    go_enter Tryd.func94, Tryd.ntmps94
    go_wp2_with fail
    go_ret
    rw [R.out]
    exact ⟨rfl, rfl⟩
  · have q : ([c] == l) = false := beq_eq_false_iff_ne.2 he
    clear he
    generalize ixL c l = I at *
    go_enter Tryd.func94, Tryd.ntmps94
    go_wp2_with fail
    refine Calls.mono (HI.out _) ?_
    rintro e w1 ⟨rfl, rfl⟩
    go_wp2_with fail
    go_ret
    exact ⟨rfl, rfl⟩
set_option maxRecDepth 100000 in
theorem lcut_any (l : List UInt8) (c : UInt8) (w : World) (hl : l.length ≤ 4611686018427387904) : Calls Tryd.prog 88 #[tx l, tx [c]] w fun e w' => e = .returned (.tuple #[tx (cutb c l).1, tx (cutb c l).2.1, .bool (cutb c l).2.2]) ∧ ∃ n, w' = w.drewN n := by
  have HI : Hid (∀ w, _) := index_one l c
  by_cases h : lead (fun b => b != c) l = l.length
  · have R : Hid (cutb c l = (l, [], false)) := by show _ = _; unfold cutb; rw [if_pos h]
    have e : ixL c l = -1 := by unfold ixL; rw [if_pos h]
    rw [e] at HI
    clear e h
    go_enter Tryd.func88, Tryd.ntmps88
    go_wp2_with fail
    refine Calls.mono (HI.out _) ?_
    rintro e w1 ⟨rfl, rfl⟩
    go_wp2_with fail
    go_ret3
    rw [R.out]
    exact ⟨rfl, 0, rfl⟩
  · have R : Hid (cutb c l = (l.take (lead (fun b => b != c) l), l.drop (lead (fun b => b != c) l + 1), true)) := by show _ = _; unfold cutb; rw [if_neg h]
    have e : ixL c l = ((lead (fun b => b != c) l : Nat) : Int) := by unfold ixL; rw [if_neg h]
    have hlt := lead_le (fun b => b != c) l
    rw [e] at HI
    clear e
    generalize lead (fun b => b != c) l = k at *
    have hk : k + 1 ≤ l.length := by omega
    have ht : ∀ w, _ := to_tx l k hlt
    have hf : ∀ w, _ := from_tx l (k + 1) hk
    have hf' : ∀ w, (Instr.slice 9 (tx l) (some (.int .i64 ((k : Int) + 1))) none none).run Tryd.prog w = .ok (tx (l.drop (k + 1))) w := hf
    have hl1 : (((⟨[c].toArray⟩ : ByteArray).size : Nat) : Int) = 1 := by rw [sz]; rfl
    have hw1 : wrap64 ((k : Int) + 1) = (k : Int) + 1 := by unfold wrap64; omega
    have hk0 : ¬ (k : Int) < 0 := by omega
    have hk1 : (0 : Int) ≤ (k : Int) := by omega
    clear h hf
    go_enter Tryd.func88, Tryd.ntmps88
    go_wp2_with fail
    refine Calls.mono (HI.out _) ?_
    rintro e w1 ⟨rfl, rfl⟩
    go_upto_region 3 with fail
    go_quiet (fail)
    go_wp2_with fail
    go_ret3
    rw [R.out]
    exact ⟨rfl, _, rfl⟩
set_option maxRecDepth 100000 in
theorem cutw_any (l : List UInt8) (c : UInt8) (w : World) (hl : l.length ≤ 4611686018427387904) : Calls Tryd.prog 76 #[tx l, tx [c]] w fun e w' => e = .returned (.tuple #[tx (cutb c l).1, tx (cutb c l).2.1, .bool (cutb c l).2.2]) ∧ ∃ n, w' = w.drewN n := by
  have HI : Hid (∀ w, _) := fun w => lcut_any l c w hl
  generalize cutb c l = p at *
  obtain ⟨a, b, d⟩ := p
  go_enter Tryd.func76, Tryd.ntmps76
  go_wp2_with fail
  refine Calls.mono (HI.out _) ?_
  rintro e w1 ⟨rfl, h⟩
  go_wp2_with fail
  go_ret3
  exact ⟨rfl, h⟩
end Go.Proofs.YtfhaiklfbnfdlaaDoor
