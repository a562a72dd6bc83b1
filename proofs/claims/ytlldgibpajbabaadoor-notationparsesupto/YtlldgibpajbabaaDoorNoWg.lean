/- What is proved: the code's Unword and Word; conditions: lengths. -/
import Derived.Test.YtlldgibpajbabaaDoorNoWf
namespace Go.Proofs.YtlldgibpajbabaaDoor
open Go.RowKit

theorem from_tx (l : List UInt8) (k : Nat) (h : k ≤ l.length) (w : World) : (Instr.slice 9 (tx l) (some (.int .i64 (k : Int))) none none).run Tryd.prog w = .ok (tx (l.drop k)) w := by
  rw [run_slice_string_from_if w 9 _ .i64 _ Tryd.underlying9, if_pos (by rw [sz]; omega)]
  congr 2
  apply ByteArray.ext
  simp [ByteArray.data_extract, sz]
  exact List.take_of_length_le (by simp)
theorem to_tx (l : List UInt8) (k : Nat) (h : k ≤ l.length) (w : World) : (Instr.slice 9 (tx l) none (some (.int .i64 (k : Int))) none).run Tryd.prog w = .ok (tx (l.take k)) w := by
  rw [run_slice_string_to_if w 9 _ .i64 _ Tryd.underlying9, if_pos (by rw [sz]; omega)]
  congr 2
  apply ByteArray.ext
  simp [ByteArray.data_extract]

/-- The bytes that a word stands for. -/
def uwd (l : List UInt8) : Option (List UInt8) := if pln l = true then some l else match l with
  | [] => none
  | a :: r => if a = 35 then (match unhx r with | some s => if pln s = true then none else some s | none => none) else none
def uwV (o : Option (List UInt8)) : Value := match o with
  | some s => .tuple #[tx s, .int .i64 0]
  | none => .tuple #[tx [], .int .i64 210]

set_option maxRecDepth 100000 in
theorem unword_any (l : List UInt8) (w : World) (hl : l.length ≤ 140737488355328) : Calls Tryd.prog 65 #[tx l] w fun e w' => e = .returned (uwV (uwd l)) ∧ Kept w w' := by
  have HP : Hid (∀ l w, _) := plain_any21
  have HCL : Hid (∀ w, _) := fun w => clone_tx l w (by omega)
  by_cases hp : pln l = true
  · have R : Hid (uwd l = some l) := by show _ = _; unfold uwd; rw [if_pos hp]
    go_enter Tryd.func65, Tryd.ntmps65
    go_wp2_with fail
    refine Calls.mono (HP.out _ _) ?_
    rintro e w1 ⟨rfl, k1⟩
    rw [hp]
    have K1 : Hid _ := k1
    clear k1
    go_wp2_with fail
    refine Calls.mono (HCL.out _) ?_
    rintro e w2 ⟨rfl, k2⟩
    have K2 : Hid _ := K1.out.trans' k2
    clear k2
    go_wp2_with fail
    go_ret2
    rw [R.out]
    exact ⟨rfl, K2.out⟩
  have hp' : pln l = false := by simpa using hp
  rcases l with _ | ⟨a, r⟩
  · go_enter Tryd.func65, Tryd.ntmps65
    go_wp2_with fail
    refine Calls.mono (HP.out _ _) ?_
    rintro e w1 ⟨rfl, k1⟩
    rw [hp']
    have K1 : Hid _ := k1
    clear k1
    go_wp2_with fail
    go_ret2
    exact ⟨rfl, K1.out⟩
  have hix : ∀ w, (Instr.index 9 (tx (a :: r)) (.int .i64 0)).run Tryd.prog w = _ := idx_tx (i := 0) rfl
  have hem : ((⟨(a :: r).toArray⟩ : ByteArray).toList == ByteArray.toList ⟨#[]⟩) = false := by rw [ByteArray.toList_eq, ByteArray.toList_eq]; simp
  have hem2 : (a :: r).isEmpty = false := rfl
  have HU : Hid _ := unhex_any r
  generalize hL : a :: r = L at *
  by_cases ha : a = 35
  · have q35 : ((a.toNat : Int) != 35) = false := by rw [ha]; rfl
    have q35' : ((a.toNat : Int) == 35) = true := by rw [ha]; rfl
    have hsl : ∀ w, (Instr.slice 9 (tx L) (some (.int .i64 1)) none none).run Tryd.prog w = .ok (tx r) w := fun w => by
      have := from_tx L 1 (by rw [← hL]; simp) w
      rw [← hL] at this ⊢
      exact this
    have RR : Hid (∀ o, unhx r = o → uwd L = match o with | some s => if pln s = true then none else some s | none => none) := fun o eo => by
      rw [← hL, uwd, hL, if_neg hp]
      simp only [ha, if_true]
      rw [eo]
    have HUR : Hid (∀ w, _) := fun w => HU.out w (by have e9 : L.length = r.length + 1 := (by rw [← hL]; rfl); omega)
    clear hL ha HU
    go_enter Tryd.func65, Tryd.ntmps65
    go_wp2_with fail
    refine Calls.mono (HP.out _ _) ?_
    rintro e w1 ⟨rfl, k1⟩
    rw [hp']
    have K1 : Hid _ := k1
    clear k1
    go_wp2_with fail
    refine Calls.mono (HUR.out _) ?_
    rintro e w2 ⟨rfl, k2⟩
    have K2 : Hid _ := K1.out.trans' k2
    clear k2
    cases hu : unhx r with
    | none =>
      have R : Hid _ := RR.out _ hu
      simp only [hxV]
      go_wp2_with fail
      go_ret2
      rw [R.out]
      exact ⟨rfl, K2.out⟩
    | some s =>
      have R : Hid _ := RR.out _ hu
      simp only [hxV]
      go_wp2_with fail
      refine Calls.mono (HP.out _ _) ?_
      rintro e w3 ⟨rfl, k3⟩
      have K3 : Hid _ := K2.out.trans' k3
      clear k3
      cases hs : pln s
      · go_wp2_with fail
        go_ret2
        rw [R.out]
        simp only [hs]
        exact ⟨rfl, K3.out⟩
      · go_wp2_with fail
        go_ret2
        rw [R.out]
        simp only [hs]
        exact ⟨rfl, K3.out⟩
  · have q35 : ((a.toNat : Int) != 35) = true := by
      have := (eq_b a 35).trans (beq_eq_false_iff_ne.2 ha)
      rw [bne, show (35 : Int) = ((35 : UInt8).toNat : Int) from rfl, this]
      rfl
    have q35' : ((a.toNat : Int) == 35) = false := (eq_b a 35).trans (beq_eq_false_iff_ne.2 ha)
    have R : Hid (uwd L = none) := by
      show _ = _
      rw [← hL, uwd, hL, if_neg hp]
      simp only [ha, if_false]
    clear hL ha HU
    go_enter Tryd.func65, Tryd.ntmps65
    go_wp2_with fail
    refine Calls.mono (HP.out _ _) ?_
    rintro e w1 ⟨rfl, k1⟩
    rw [hp']
    have K1 : Hid _ := k1
    clear k1
    go_wp2_with fail
    go_ret2
    rw [R.out]
    exact ⟨rfl, K1.out⟩
end Go.Proofs.YtlldgibpajbabaaDoor
