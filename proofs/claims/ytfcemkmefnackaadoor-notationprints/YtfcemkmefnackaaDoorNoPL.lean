/- What is proved: the law NotationPrints returns true and turns nothing that was there; condition: the library's table of powers lies as its text lays it. -/
import Derived.Test.YtfcemkmefnackaaDoorNoLn
import Derived.Test.YtfcemkmefnackaaDoorNoOT
import Derived.Test.YtfcemkmefnackaaDoorRRVal
namespace Go.Proofs.YtfcemkmefnackaaDoor
open Go.RowKit

set_option maxRecDepth 100000 in
set_option maxHeartbeats 3200000 in
theorem prints_law (w : World) (t : TxM) (a : Option Addr) (c : Nat) (h : ArgT w t a c) (ht : Tab w.heap.size w) : Calls Tryd.prog 4 #[txV t (.slice a t.ops.length c)] w fun e w' => e = .returned (.bool true) ∧ Kept w w' := by
  have HAN : Hid (∀ W, Kept w W → _) := fun W (k : Kept w W) => anchor_any21 W (ht.up (Nat.le_refl _) k)
  have HC : Hid (∀ W, Kept w W → _) := fun W (k : Kept w W) => copy_any W t a c (h.on k)
  have HP : Hid (∀ W v, Kept w W → TxA W t v → _) := fun W v (k : Kept w W) hv => print_any W t v hv (ht.up (Nat.le_refl _) k)
  have HV : Hid (∀ W, Kept w W → _) := fun W (k : Kept w W) => validR_any W t (txV t (.slice a t.ops.length c)) (h.on k).txa
  have HL : Hid (∀ W, Kept w W → Right t → _) := fun W (k : Kept w W) (hr : Right t) => rline_any (w := W) t a c hr (h.on k).ops
  have HR : Hid (valid t = 0 → Right t) := right_of
  have EP : Hid (printT t = if valid t ≠ 0 then ([], valid t) else (line t, 0)) := rfl
  have TXA : Hid (∀ W b a' c', OwnO b W (.slice a' t.ops.length c') t.ops → TxA W t (txV t (.slice a' t.ops.length c'))) := fun W b a' c' o => OwnO.txa o
  clear h ht
  generalize printT t = PT at *
  generalize hvc : valid t = vc at *
  clear hvc
  generalize line t = LN at *
  obtain ⟨f0, f1, f2, f3, f4, f5, f6, ops⟩ := t
  simp only [txV] at HC HV HL TXA ⊢
  have B0 : Hid _ := heap_new w (.cells #[.int .i64 f0, .int .i64 f1, .int .i64 f2, .int .i64 f3, .int .i64 f4, .int .i64 f5, .int .i64 f6, .slice a ops.length c] 38 (0, 0))
  go_enter Tryd.func4, Tryd.ntmps4
  go_wp2_with fail
  refine Calls.mono (HAN.out _ ((Same.refl _ w).alloc _)) ?_
  rintro e w1 ⟨rfl, k1⟩
  have K1 : Hid (Kept w w1) := ((Same.refl _ w).alloc _).trans' k1
  have B1 : Hid _ := (k1.block _ (lt_of_heap B0.out) (fun e => e)).trans B0.out
  obtain ⟨⟨d0, d1, d2, d3, d4, d5, d6, d7⟩, -⟩ := tx_obj B1.out
  have ld := lt_of_heap B1.out
  clear k1 B0 HAN
  go_wp2_with fail
  refine Calls.mono (HC.out _ K1.out) ?_
  rintro e w2 ⟨a2, c2, rfl, o2, k2⟩
  have K2 : Hid (Kept w w2) := K1.out.trans' k2
  have B2 : Hid _ := (k2.block _ (lt_of_heap B1.out) (fun e => e)).trans B1.out
  have X2 : Hid _ := TXA.out _ _ _ _ o2
  clear k2 o2 d0 d1 d2 d3 d4 d5 d6 d7 ld K1 B1 HC TXA
  go_wp2_with fail
  refine Calls.mono (HP.out _ _ K2.out X2.out) ?_
  rintro e w3 ⟨rfl, k3⟩
  have K3 : Hid (Kept w w3) := K2.out.trans' k3
  have B3 : Hid _ := (k3.block _ (lt_of_heap B2.out) (fun e => e)).trans B2.out
  obtain ⟨⟨d0, d1, d2, d3, d4, d5, d6, d7⟩, -⟩ := tx_obj B3.out
  have ld := lt_of_heap B3.out
  clear k3 K2 B2 X2 HP
  obtain ⟨pl, pc⟩ := PT
  dsimp only
  go_wp2_with fail
  refine Calls.mono (HV.out _ K3.out) ?_
  rintro e w4 ⟨rfl, k4⟩
  have K4 : Hid (Kept w w4) := K3.out.trans' k4
  have B4 : Hid _ := (k4.block _ (lt_of_heap B3.out) (fun e => e)).trans B3.out
  clear d0 d1 d2 d3 d4 d5 d6 d7 ld
  obtain ⟨⟨d0, d1, d2, d3, d4, d5, d6, d7⟩, -⟩ := tx_obj B4.out
  have ld := lt_of_heap B4.out
  clear k4 K3 B3 HV
  by_cases hv : vc = 0
  · subst hv
    simp only [ne_eq, not_true, if_false] at EP
    obtain ⟨rfl, rfl⟩ := Prod.mk.inj EP.out
    clear EP
    go_wp2_with fail
    refine Calls.mono (HL.out _ K4.out (HR.out (by trivial))) ?_
    rintro e w5 ⟨v5, rfl, o5, k5⟩
    have hst := own_str o5
    have K5 : Hid (Kept w w5) := K4.out.trans' k5
    clear o5 k5
    go_wp2_with fail
    go_ret
    exact ⟨by simp, K5.out⟩
  · have hv' : (vc == 0) = false := beq_eq_false_iff_ne.2 hv
    have hv2 : (vc != 0) = true := by rw [bne, hv']; rfl
    rw [if_pos hv] at EP
    obtain ⟨rfl, rfl⟩ := Prod.mk.inj EP.out
    clear EP
    go_wp2_with fail
    go_ret
    exact ⟨rfl, K4.out⟩
end Go.Proofs.YtfcemkmefnackaaDoor
