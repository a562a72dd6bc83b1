/- What is proved: the law ConfigBounds; condition: the library's table of powers lies as its text lays it. -/
import Derived.Test.YtolooejcgdknnaaDoorCfB
import Derived.Deep.DeepCutAuto
namespace Go.Proofs.YtolooejcgdknnaaDoor
open Go.RowKit

/-- The config of a bound, and what is wanted of it. -/
def bdC (k : Nat) (past : Bool) : Cg × Int :=
  let d : Int := if past then 1 else 0
  let e : Int := if past then 1 else 0
  match k with
  | 0 => ({ usC with a := 1200 - d }, e * 100)
  | 1 => ({ usC with a := 16777216 + d }, e * 100)
  | 2 => ({ usC with b := 2 - d }, e * 110)
  | 3 => ({ usC with b := 64 + d }, e * 110)
  | 4 => ({ usC with c := 0 - d }, e * 160)
  | 5 => ({ usC with c := 1048576 + d }, e * 160)
  | 6 => ({ usC with d := 0 - d }, e * 171)
  | 7 => ({ usC with d := 1099511627776 + d }, e * 171)
  | 8 => ({ usC with e := 0 - d }, e * 180)
  | _ => ({ usC with e := 10000 + d }, e * 180)
theorem bdC_chk : ∀ (k : Fin 10) (p : Bool), chk (bdC k.val p).1 = (bdC k.val p).2 := by decide
set_option maxRecDepth 100000 in
set_option maxHeartbeats 6400000 in
theorem bounds_law (k : Int) (p : Bool) (w : World) (ht : Tab w.heap.size w) : Calls Tryd.prog 7 #[.int .i64 k, .bool p] w fun e w' => e = .returned (.bool true) ∧ Kept w w' := by
  have HA : Hid (∀ W, Kept w W → _) := fun W k => anchor_any23 W (ht.upK W k)
  have HU : Hid (∀ W, _) := rusual_any
  have HC : Hid (∀ a b c d e W, Calls Tryd.prog 11 #[.agg #[.int .i64 a, .int .i64 b, .int .i64 c, .int .i64 d, .int .i64 e]] W fun r w' => r = .returned (.int .i64 (chk ⟨a, b, c, d, e⟩)) ∧ Kept W w') := fun a b c d e W => check_cf ⟨a, b, c, d, e⟩ W
  have HT : Hid (∀ a b c d e, Nn ⟨a, b, c, d, e⟩ → ∀ W, Calls Tryd.prog 12 #[.agg #[.int .i64 a, .int .i64 b, .int .i64 c, .int .i64 d, .int .i64 e]] W fun r w' => r = .returned (tx (pr ⟨a, b, c, d, e⟩ 5)) ∧ Kept W w') := fun a b c d e h W => rtext_cf ⟨a, b, c, d, e⟩ h W
  have HP : Hid (∀ x, Nn x → ∀ W, Calls Tryd.prog 13 #[tx (pr x 5)] W fun e w' => e = .returned (paV (parseC (pr x 5))) ∧ Kept W w') := fun x h W => parse_cf (pr x 5) W (by have := pr_len' h 5 (by omega); omega)
  clear ht
  by_cases hk : 0 ≤ k ∧ k ≤ 9
  · have hc : k = 0 ∨ k = 1 ∨ k = 2 ∨ k = 3 ∨ k = 4 ∨ k = 5 ∨ k = 6 ∨ k = 7 ∨ k = 8 ∨ k = 9 := by omega
    clear hk
    rcases hc with rfl | rfl | rfl | rfl | rfl | rfl | rfl | rfl | rfl | rfl
    · cases p
      · have HQ : Hid (chk ⟨1200, 8, 1048576, 0, 100⟩ = 0) := by show _ = _; decide
        go_enter Tryd.func7, Tryd.ntmps7
        go_wp2_with fail
        refine Calls.mono (HA.out _ (Same.refl _ w)) ?_
        rintro r w1 ⟨rfl, k1⟩
        have K1 : Hid (Kept w w1) := k1
        clear k1
        go_wp2_with fail
        refine Calls.mono (HU.out _) ?_
        rintro r w2 ⟨rfl, k2⟩
        have K2 : Hid (Kept w w2) := K1.out.trans' k2
        clear k2 K1
        go_upto_region 33 with fail
        have K3 : Hid (Kept w (w2.alloc (.cells #[.int .i64 1200, .int .i64 8, .int .i64 1048576, .int .i64 0, .int .i64 100] 23))) := K2.out.alloc _
        have B3 : Hid ((w2.alloc (.cells #[.int .i64 1200, .int .i64 8, .int .i64 1048576, .int .i64 0, .int .i64 100] 23)).heap[w2.heap.size]? = some (.cells #[.int .i64 1200, .int .i64 8, .int .i64 1048576, .int .i64 0, .int .i64 100] 23 (0, 0))) := heap_new _ _
        generalize w2.alloc (.cells #[.int .i64 1200, .int .i64 8, .int .i64 1048576, .int .i64 0, .int .i64 100] 23) = W3 at K3 B3 ⊢
        generalize w2.heap.size = g at B3 ⊢
        have c0 : W3.cell? ⟨g, 0, none⟩ = some (.int .i64 1200) := cell_of B3.out 0
        have c1 : W3.cell? ⟨g, 1, none⟩ = some (.int .i64 8) := cell_of B3.out 1
        have c2 : W3.cell? ⟨g, 2, none⟩ = some (.int .i64 1048576) := cell_of B3.out 2
        have c3 : W3.cell? ⟨g, 3, none⟩ = some (.int .i64 0) := cell_of B3.out 3
        have c4 : W3.cell? ⟨g, 4, none⟩ = some (.int .i64 100) := cell_of B3.out 4
        have yl := lt_of_heap B3.out
        go_wp2_with fail
        refine Calls.mono (HC.out 1200 8 1048576 0 100 _) ?_
        rintro r w4 ⟨rfl, k4⟩
        rw [HQ.out]
        have K4 : Hid (Kept w w4) := K3.out.trans' k4
        have B4 : Hid (w4.heap[g]? = some (.cells #[.int .i64 1200, .int .i64 8, .int .i64 1048576, .int .i64 0, .int .i64 100] 23 (0, 0))) := (k4.block _ (lt_of_heap B3.out) (fun e => e)).trans B3.out
        clear k4 B3 K3 c0 c1 c2 c3 c4 yl
        have c0 : w4.cell? ⟨g, 0, none⟩ = some (.int .i64 1200) := cell_of B4.out 0
        have c1 : w4.cell? ⟨g, 1, none⟩ = some (.int .i64 8) := cell_of B4.out 1
        have c2 : w4.cell? ⟨g, 2, none⟩ = some (.int .i64 1048576) := cell_of B4.out 2
        have c3 : w4.cell? ⟨g, 3, none⟩ = some (.int .i64 0) := cell_of B4.out 3
        have c4 : w4.cell? ⟨g, 4, none⟩ = some (.int .i64 100) := cell_of B4.out 4
        have yl := lt_of_heap B4.out
        have HN : Hid (Nn ⟨1200, 8, 1048576, 0, 100⟩) := by
          intro k
          unfold fl
          split <;> simp
        have HR : Hid (parseC (pr ⟨1200, 8, 1048576, 0, 100⟩ 5) = (⟨1200, 8, 1048576, 0, 100⟩, 0)) := by
          show _ = _
          rw [parse_pr HN.out, HQ.out]
          rfl
        go_wp2_with fail
        refine Calls.mono (HT.out 1200 8 1048576 0 100 HN.out _) ?_
        rintro r w5 ⟨rfl, k5⟩
        have K5 : Hid (Kept w w5) := K4.out.trans' k5
        have B5 : Hid (w5.heap[g]? = some (.cells #[.int .i64 1200, .int .i64 8, .int .i64 1048576, .int .i64 0, .int .i64 100] 23 (0, 0))) := (k5.block _ (lt_of_heap B4.out) (fun e => e)).trans B4.out
        clear k5 B4 K4 c0 c1 c2 c3 c4 yl
        go_wp2_with fail
        refine Calls.mono (HP.out _ HN.out _) ?_
        rintro r w6 ⟨rfl, k6⟩
        rw [HR.out]
        simp only [paV]
        have K6 : Hid (Kept w w6) := K5.out.trans' k6
        have B6 : Hid (w6.heap[g]? = some (.cells #[.int .i64 1200, .int .i64 8, .int .i64 1048576, .int .i64 0, .int .i64 100] 23 (0, 0))) := (k6.block _ (lt_of_heap B5.out) (fun e => e)).trans B5.out
        clear k6 B5 K5
        have c0 : w6.cell? ⟨g, 0, none⟩ = some (.int .i64 1200) := cell_of B6.out 0
        have c1 : w6.cell? ⟨g, 1, none⟩ = some (.int .i64 8) := cell_of B6.out 1
        have c2 : w6.cell? ⟨g, 2, none⟩ = some (.int .i64 1048576) := cell_of B6.out 2
        have c3 : w6.cell? ⟨g, 3, none⟩ = some (.int .i64 0) := cell_of B6.out 3
        have c4 : w6.cell? ⟨g, 4, none⟩ = some (.int .i64 100) := cell_of B6.out 4
        have yl := lt_of_heap B6.out
        go_wp2_with fail
        go_ret
        exact ⟨rfl, K6.out.alloc _⟩
      · have HQ : Hid (chk ⟨1199, 8, 1048576, 0, 100⟩ = 100) := by show _ = _; decide
        go_enter Tryd.func7, Tryd.ntmps7
        go_wp2_with fail
        refine Calls.mono (HA.out _ (Same.refl _ w)) ?_
        rintro r w1 ⟨rfl, k1⟩
        have K1 : Hid (Kept w w1) := k1
        clear k1
        go_wp2_with fail
        refine Calls.mono (HU.out _) ?_
        rintro r w2 ⟨rfl, k2⟩
        have K2 : Hid (Kept w w2) := K1.out.trans' k2
        clear k2 K1
        go_upto_region 33 with fail
        have K3 : Hid (Kept w (w2.alloc (.cells #[.int .i64 1199, .int .i64 8, .int .i64 1048576, .int .i64 0, .int .i64 100] 23))) := K2.out.alloc _
        have B3 : Hid ((w2.alloc (.cells #[.int .i64 1199, .int .i64 8, .int .i64 1048576, .int .i64 0, .int .i64 100] 23)).heap[w2.heap.size]? = some (.cells #[.int .i64 1199, .int .i64 8, .int .i64 1048576, .int .i64 0, .int .i64 100] 23 (0, 0))) := heap_new _ _
        generalize w2.alloc (.cells #[.int .i64 1199, .int .i64 8, .int .i64 1048576, .int .i64 0, .int .i64 100] 23) = W3 at K3 B3 ⊢
        generalize w2.heap.size = g at B3 ⊢
        have c0 : W3.cell? ⟨g, 0, none⟩ = some (.int .i64 1199) := cell_of B3.out 0
        have c1 : W3.cell? ⟨g, 1, none⟩ = some (.int .i64 8) := cell_of B3.out 1
        have c2 : W3.cell? ⟨g, 2, none⟩ = some (.int .i64 1048576) := cell_of B3.out 2
        have c3 : W3.cell? ⟨g, 3, none⟩ = some (.int .i64 0) := cell_of B3.out 3
        have c4 : W3.cell? ⟨g, 4, none⟩ = some (.int .i64 100) := cell_of B3.out 4
        have yl := lt_of_heap B3.out
        go_wp2_with fail
        refine Calls.mono (HC.out 1199 8 1048576 0 100 _) ?_
        rintro r w4 ⟨rfl, k4⟩
        rw [HQ.out]
        have K4 : Hid (Kept w w4) := K3.out.trans' k4
        have B4 : Hid (w4.heap[g]? = some (.cells #[.int .i64 1199, .int .i64 8, .int .i64 1048576, .int .i64 0, .int .i64 100] 23 (0, 0))) := (k4.block _ (lt_of_heap B3.out) (fun e => e)).trans B3.out
        clear k4 B3 K3 c0 c1 c2 c3 c4 yl
        have c0 : w4.cell? ⟨g, 0, none⟩ = some (.int .i64 1199) := cell_of B4.out 0
        have c1 : w4.cell? ⟨g, 1, none⟩ = some (.int .i64 8) := cell_of B4.out 1
        have c2 : w4.cell? ⟨g, 2, none⟩ = some (.int .i64 1048576) := cell_of B4.out 2
        have c3 : w4.cell? ⟨g, 3, none⟩ = some (.int .i64 0) := cell_of B4.out 3
        have c4 : w4.cell? ⟨g, 4, none⟩ = some (.int .i64 100) := cell_of B4.out 4
        have yl := lt_of_heap B4.out
        have HN : Hid (Nn ⟨1199, 8, 1048576, 0, 100⟩) := by
          intro k
          unfold fl
          split <;> simp
        have HR : Hid (parseC (pr ⟨1199, 8, 1048576, 0, 100⟩ 5) = (zC, 100)) := by
          show _ = _
          rw [parse_pr HN.out, HQ.out]
          rfl
        go_wp2_with fail
        refine Calls.mono (HT.out 1199 8 1048576 0 100 HN.out _) ?_
        rintro r w5 ⟨rfl, k5⟩
        have K5 : Hid (Kept w w5) := K4.out.trans' k5
        have B5 : Hid (w5.heap[g]? = some (.cells #[.int .i64 1199, .int .i64 8, .int .i64 1048576, .int .i64 0, .int .i64 100] 23 (0, 0))) := (k5.block _ (lt_of_heap B4.out) (fun e => e)).trans B4.out
        clear k5 B4 K4 c0 c1 c2 c3 c4 yl
        go_wp2_with fail
        refine Calls.mono (HP.out _ HN.out _) ?_
        rintro r w6 ⟨rfl, k6⟩
        rw [HR.out]
        simp only [paV, zC]
        have K6 : Hid (Kept w w6) := K5.out.trans' k6
        have B6 : Hid (w6.heap[g]? = some (.cells #[.int .i64 1199, .int .i64 8, .int .i64 1048576, .int .i64 0, .int .i64 100] 23 (0, 0))) := (k6.block _ (lt_of_heap B5.out) (fun e => e)).trans B5.out
        clear k6 B5 K5
        have c0 : w6.cell? ⟨g, 0, none⟩ = some (.int .i64 1199) := cell_of B6.out 0
        have c1 : w6.cell? ⟨g, 1, none⟩ = some (.int .i64 8) := cell_of B6.out 1
        have c2 : w6.cell? ⟨g, 2, none⟩ = some (.int .i64 1048576) := cell_of B6.out 2
        have c3 : w6.cell? ⟨g, 3, none⟩ = some (.int .i64 0) := cell_of B6.out 3
        have c4 : w6.cell? ⟨g, 4, none⟩ = some (.int .i64 100) := cell_of B6.out 4
        have yl := lt_of_heap B6.out
        go_wp2_with fail
        go_ret
        exact ⟨rfl, K6.out.alloc _⟩
    · cases p
      · have HQ : Hid (chk ⟨16777216, 8, 1048576, 0, 100⟩ = 0) := by show _ = _; decide
        go_enter Tryd.func7, Tryd.ntmps7
        go_wp2_with fail
        refine Calls.mono (HA.out _ (Same.refl _ w)) ?_
        rintro r w1 ⟨rfl, k1⟩
        have K1 : Hid (Kept w w1) := k1
        clear k1
        go_wp2_with fail
        refine Calls.mono (HU.out _) ?_
        rintro r w2 ⟨rfl, k2⟩
        have K2 : Hid (Kept w w2) := K1.out.trans' k2
        clear k2 K1
        go_upto_region 33 with fail
        have K3 : Hid (Kept w (w2.alloc (.cells #[.int .i64 16777216, .int .i64 8, .int .i64 1048576, .int .i64 0, .int .i64 100] 23))) := K2.out.alloc _
        have B3 : Hid ((w2.alloc (.cells #[.int .i64 16777216, .int .i64 8, .int .i64 1048576, .int .i64 0, .int .i64 100] 23)).heap[w2.heap.size]? = some (.cells #[.int .i64 16777216, .int .i64 8, .int .i64 1048576, .int .i64 0, .int .i64 100] 23 (0, 0))) := heap_new _ _
        generalize w2.alloc (.cells #[.int .i64 16777216, .int .i64 8, .int .i64 1048576, .int .i64 0, .int .i64 100] 23) = W3 at K3 B3 ⊢
        generalize w2.heap.size = g at B3 ⊢
        have c0 : W3.cell? ⟨g, 0, none⟩ = some (.int .i64 16777216) := cell_of B3.out 0
        have c1 : W3.cell? ⟨g, 1, none⟩ = some (.int .i64 8) := cell_of B3.out 1
        have c2 : W3.cell? ⟨g, 2, none⟩ = some (.int .i64 1048576) := cell_of B3.out 2
        have c3 : W3.cell? ⟨g, 3, none⟩ = some (.int .i64 0) := cell_of B3.out 3
        have c4 : W3.cell? ⟨g, 4, none⟩ = some (.int .i64 100) := cell_of B3.out 4
        have yl := lt_of_heap B3.out
        go_wp2_with fail
        refine Calls.mono (HC.out 16777216 8 1048576 0 100 _) ?_
        rintro r w4 ⟨rfl, k4⟩
        rw [HQ.out]
        have K4 : Hid (Kept w w4) := K3.out.trans' k4
        have B4 : Hid (w4.heap[g]? = some (.cells #[.int .i64 16777216, .int .i64 8, .int .i64 1048576, .int .i64 0, .int .i64 100] 23 (0, 0))) := (k4.block _ (lt_of_heap B3.out) (fun e => e)).trans B3.out
        clear k4 B3 K3 c0 c1 c2 c3 c4 yl
        have c0 : w4.cell? ⟨g, 0, none⟩ = some (.int .i64 16777216) := cell_of B4.out 0
        have c1 : w4.cell? ⟨g, 1, none⟩ = some (.int .i64 8) := cell_of B4.out 1
        have c2 : w4.cell? ⟨g, 2, none⟩ = some (.int .i64 1048576) := cell_of B4.out 2
        have c3 : w4.cell? ⟨g, 3, none⟩ = some (.int .i64 0) := cell_of B4.out 3
        have c4 : w4.cell? ⟨g, 4, none⟩ = some (.int .i64 100) := cell_of B4.out 4
        have yl := lt_of_heap B4.out
        have HN : Hid (Nn ⟨16777216, 8, 1048576, 0, 100⟩) := by
          intro k
          unfold fl
          split <;> simp
        have HR : Hid (parseC (pr ⟨16777216, 8, 1048576, 0, 100⟩ 5) = (⟨16777216, 8, 1048576, 0, 100⟩, 0)) := by
          show _ = _
          rw [parse_pr HN.out, HQ.out]
          rfl
        go_wp2_with fail
        refine Calls.mono (HT.out 16777216 8 1048576 0 100 HN.out _) ?_
        rintro r w5 ⟨rfl, k5⟩
        have K5 : Hid (Kept w w5) := K4.out.trans' k5
        have B5 : Hid (w5.heap[g]? = some (.cells #[.int .i64 16777216, .int .i64 8, .int .i64 1048576, .int .i64 0, .int .i64 100] 23 (0, 0))) := (k5.block _ (lt_of_heap B4.out) (fun e => e)).trans B4.out
        clear k5 B4 K4 c0 c1 c2 c3 c4 yl
        go_wp2_with fail
        refine Calls.mono (HP.out _ HN.out _) ?_
        rintro r w6 ⟨rfl, k6⟩
        rw [HR.out]
        simp only [paV]
        have K6 : Hid (Kept w w6) := K5.out.trans' k6
        have B6 : Hid (w6.heap[g]? = some (.cells #[.int .i64 16777216, .int .i64 8, .int .i64 1048576, .int .i64 0, .int .i64 100] 23 (0, 0))) := (k6.block _ (lt_of_heap B5.out) (fun e => e)).trans B5.out
        clear k6 B5 K5
        have c0 : w6.cell? ⟨g, 0, none⟩ = some (.int .i64 16777216) := cell_of B6.out 0
        have c1 : w6.cell? ⟨g, 1, none⟩ = some (.int .i64 8) := cell_of B6.out 1
        have c2 : w6.cell? ⟨g, 2, none⟩ = some (.int .i64 1048576) := cell_of B6.out 2
        have c3 : w6.cell? ⟨g, 3, none⟩ = some (.int .i64 0) := cell_of B6.out 3
        have c4 : w6.cell? ⟨g, 4, none⟩ = some (.int .i64 100) := cell_of B6.out 4
        have yl := lt_of_heap B6.out
        go_wp2_with fail
        go_ret
        exact ⟨rfl, K6.out.alloc _⟩
      · have HQ : Hid (chk ⟨16777217, 8, 1048576, 0, 100⟩ = 100) := by show _ = _; decide
        go_enter Tryd.func7, Tryd.ntmps7
        go_wp2_with fail
        refine Calls.mono (HA.out _ (Same.refl _ w)) ?_
        rintro r w1 ⟨rfl, k1⟩
        have K1 : Hid (Kept w w1) := k1
        clear k1
        go_wp2_with fail
        refine Calls.mono (HU.out _) ?_
        rintro r w2 ⟨rfl, k2⟩
        have K2 : Hid (Kept w w2) := K1.out.trans' k2
        clear k2 K1
        go_upto_region 33 with fail
        have K3 : Hid (Kept w (w2.alloc (.cells #[.int .i64 16777217, .int .i64 8, .int .i64 1048576, .int .i64 0, .int .i64 100] 23))) := K2.out.alloc _
        have B3 : Hid ((w2.alloc (.cells #[.int .i64 16777217, .int .i64 8, .int .i64 1048576, .int .i64 0, .int .i64 100] 23)).heap[w2.heap.size]? = some (.cells #[.int .i64 16777217, .int .i64 8, .int .i64 1048576, .int .i64 0, .int .i64 100] 23 (0, 0))) := heap_new _ _
        generalize w2.alloc (.cells #[.int .i64 16777217, .int .i64 8, .int .i64 1048576, .int .i64 0, .int .i64 100] 23) = W3 at K3 B3 ⊢
        generalize w2.heap.size = g at B3 ⊢
        have c0 : W3.cell? ⟨g, 0, none⟩ = some (.int .i64 16777217) := cell_of B3.out 0
        have c1 : W3.cell? ⟨g, 1, none⟩ = some (.int .i64 8) := cell_of B3.out 1
        have c2 : W3.cell? ⟨g, 2, none⟩ = some (.int .i64 1048576) := cell_of B3.out 2
        have c3 : W3.cell? ⟨g, 3, none⟩ = some (.int .i64 0) := cell_of B3.out 3
        have c4 : W3.cell? ⟨g, 4, none⟩ = some (.int .i64 100) := cell_of B3.out 4
        have yl := lt_of_heap B3.out
        go_wp2_with fail
        refine Calls.mono (HC.out 16777217 8 1048576 0 100 _) ?_
        rintro r w4 ⟨rfl, k4⟩
        rw [HQ.out]
        have K4 : Hid (Kept w w4) := K3.out.trans' k4
        have B4 : Hid (w4.heap[g]? = some (.cells #[.int .i64 16777217, .int .i64 8, .int .i64 1048576, .int .i64 0, .int .i64 100] 23 (0, 0))) := (k4.block _ (lt_of_heap B3.out) (fun e => e)).trans B3.out
        clear k4 B3 K3 c0 c1 c2 c3 c4 yl
        have c0 : w4.cell? ⟨g, 0, none⟩ = some (.int .i64 16777217) := cell_of B4.out 0
        have c1 : w4.cell? ⟨g, 1, none⟩ = some (.int .i64 8) := cell_of B4.out 1
        have c2 : w4.cell? ⟨g, 2, none⟩ = some (.int .i64 1048576) := cell_of B4.out 2
        have c3 : w4.cell? ⟨g, 3, none⟩ = some (.int .i64 0) := cell_of B4.out 3
        have c4 : w4.cell? ⟨g, 4, none⟩ = some (.int .i64 100) := cell_of B4.out 4
        have yl := lt_of_heap B4.out
        have HN : Hid (Nn ⟨16777217, 8, 1048576, 0, 100⟩) := by
          intro k
          unfold fl
          split <;> simp
        have HR : Hid (parseC (pr ⟨16777217, 8, 1048576, 0, 100⟩ 5) = (zC, 100)) := by
          show _ = _
          rw [parse_pr HN.out, HQ.out]
          rfl
        go_wp2_with fail
        refine Calls.mono (HT.out 16777217 8 1048576 0 100 HN.out _) ?_
        rintro r w5 ⟨rfl, k5⟩
        have K5 : Hid (Kept w w5) := K4.out.trans' k5
        have B5 : Hid (w5.heap[g]? = some (.cells #[.int .i64 16777217, .int .i64 8, .int .i64 1048576, .int .i64 0, .int .i64 100] 23 (0, 0))) := (k5.block _ (lt_of_heap B4.out) (fun e => e)).trans B4.out
        clear k5 B4 K4 c0 c1 c2 c3 c4 yl
        go_wp2_with fail
        refine Calls.mono (HP.out _ HN.out _) ?_
        rintro r w6 ⟨rfl, k6⟩
        rw [HR.out]
        simp only [paV, zC]
        have K6 : Hid (Kept w w6) := K5.out.trans' k6
        have B6 : Hid (w6.heap[g]? = some (.cells #[.int .i64 16777217, .int .i64 8, .int .i64 1048576, .int .i64 0, .int .i64 100] 23 (0, 0))) := (k6.block _ (lt_of_heap B5.out) (fun e => e)).trans B5.out
        clear k6 B5 K5
        have c0 : w6.cell? ⟨g, 0, none⟩ = some (.int .i64 16777217) := cell_of B6.out 0
        have c1 : w6.cell? ⟨g, 1, none⟩ = some (.int .i64 8) := cell_of B6.out 1
        have c2 : w6.cell? ⟨g, 2, none⟩ = some (.int .i64 1048576) := cell_of B6.out 2
        have c3 : w6.cell? ⟨g, 3, none⟩ = some (.int .i64 0) := cell_of B6.out 3
        have c4 : w6.cell? ⟨g, 4, none⟩ = some (.int .i64 100) := cell_of B6.out 4
        have yl := lt_of_heap B6.out
        go_wp2_with fail
        go_ret
        exact ⟨rfl, K6.out.alloc _⟩
    · cases p
      · have HQ : Hid (chk ⟨4096, 2, 1048576, 0, 100⟩ = 0) := by show _ = _; decide
        go_enter Tryd.func7, Tryd.ntmps7
        go_wp2_with fail
        refine Calls.mono (HA.out _ (Same.refl _ w)) ?_
        rintro r w1 ⟨rfl, k1⟩
        have K1 : Hid (Kept w w1) := k1
        clear k1
        go_wp2_with fail
        refine Calls.mono (HU.out _) ?_
        rintro r w2 ⟨rfl, k2⟩
        have K2 : Hid (Kept w w2) := K1.out.trans' k2
        clear k2 K1
        go_upto_region 33 with fail
        have K3 : Hid (Kept w (w2.alloc (.cells #[.int .i64 4096, .int .i64 2, .int .i64 1048576, .int .i64 0, .int .i64 100] 23))) := K2.out.alloc _
        have B3 : Hid ((w2.alloc (.cells #[.int .i64 4096, .int .i64 2, .int .i64 1048576, .int .i64 0, .int .i64 100] 23)).heap[w2.heap.size]? = some (.cells #[.int .i64 4096, .int .i64 2, .int .i64 1048576, .int .i64 0, .int .i64 100] 23 (0, 0))) := heap_new _ _
        generalize w2.alloc (.cells #[.int .i64 4096, .int .i64 2, .int .i64 1048576, .int .i64 0, .int .i64 100] 23) = W3 at K3 B3 ⊢
        generalize w2.heap.size = g at B3 ⊢
        have c0 : W3.cell? ⟨g, 0, none⟩ = some (.int .i64 4096) := cell_of B3.out 0
        have c1 : W3.cell? ⟨g, 1, none⟩ = some (.int .i64 2) := cell_of B3.out 1
        have c2 : W3.cell? ⟨g, 2, none⟩ = some (.int .i64 1048576) := cell_of B3.out 2
        have c3 : W3.cell? ⟨g, 3, none⟩ = some (.int .i64 0) := cell_of B3.out 3
        have c4 : W3.cell? ⟨g, 4, none⟩ = some (.int .i64 100) := cell_of B3.out 4
        have yl := lt_of_heap B3.out
        go_wp2_with fail
        refine Calls.mono (HC.out 4096 2 1048576 0 100 _) ?_
        rintro r w4 ⟨rfl, k4⟩
        rw [HQ.out]
        have K4 : Hid (Kept w w4) := K3.out.trans' k4
        have B4 : Hid (w4.heap[g]? = some (.cells #[.int .i64 4096, .int .i64 2, .int .i64 1048576, .int .i64 0, .int .i64 100] 23 (0, 0))) := (k4.block _ (lt_of_heap B3.out) (fun e => e)).trans B3.out
        clear k4 B3 K3 c0 c1 c2 c3 c4 yl
        have c0 : w4.cell? ⟨g, 0, none⟩ = some (.int .i64 4096) := cell_of B4.out 0
        have c1 : w4.cell? ⟨g, 1, none⟩ = some (.int .i64 2) := cell_of B4.out 1
        have c2 : w4.cell? ⟨g, 2, none⟩ = some (.int .i64 1048576) := cell_of B4.out 2
        have c3 : w4.cell? ⟨g, 3, none⟩ = some (.int .i64 0) := cell_of B4.out 3
        have c4 : w4.cell? ⟨g, 4, none⟩ = some (.int .i64 100) := cell_of B4.out 4
        have yl := lt_of_heap B4.out
        have HN : Hid (Nn ⟨4096, 2, 1048576, 0, 100⟩) := by
          intro k
          unfold fl
          split <;> simp
        have HR : Hid (parseC (pr ⟨4096, 2, 1048576, 0, 100⟩ 5) = (⟨4096, 2, 1048576, 0, 100⟩, 0)) := by
          show _ = _
          rw [parse_pr HN.out, HQ.out]
          rfl
        go_wp2_with fail
        refine Calls.mono (HT.out 4096 2 1048576 0 100 HN.out _) ?_
        rintro r w5 ⟨rfl, k5⟩
        have K5 : Hid (Kept w w5) := K4.out.trans' k5
        have B5 : Hid (w5.heap[g]? = some (.cells #[.int .i64 4096, .int .i64 2, .int .i64 1048576, .int .i64 0, .int .i64 100] 23 (0, 0))) := (k5.block _ (lt_of_heap B4.out) (fun e => e)).trans B4.out
        clear k5 B4 K4 c0 c1 c2 c3 c4 yl
        go_wp2_with fail
        refine Calls.mono (HP.out _ HN.out _) ?_
        rintro r w6 ⟨rfl, k6⟩
        rw [HR.out]
        simp only [paV]
        have K6 : Hid (Kept w w6) := K5.out.trans' k6
        have B6 : Hid (w6.heap[g]? = some (.cells #[.int .i64 4096, .int .i64 2, .int .i64 1048576, .int .i64 0, .int .i64 100] 23 (0, 0))) := (k6.block _ (lt_of_heap B5.out) (fun e => e)).trans B5.out
        clear k6 B5 K5
        have c0 : w6.cell? ⟨g, 0, none⟩ = some (.int .i64 4096) := cell_of B6.out 0
        have c1 : w6.cell? ⟨g, 1, none⟩ = some (.int .i64 2) := cell_of B6.out 1
        have c2 : w6.cell? ⟨g, 2, none⟩ = some (.int .i64 1048576) := cell_of B6.out 2
        have c3 : w6.cell? ⟨g, 3, none⟩ = some (.int .i64 0) := cell_of B6.out 3
        have c4 : w6.cell? ⟨g, 4, none⟩ = some (.int .i64 100) := cell_of B6.out 4
        have yl := lt_of_heap B6.out
        go_wp2_with fail
        go_ret
        exact ⟨rfl, K6.out.alloc _⟩
      · have HQ : Hid (chk ⟨4096, 1, 1048576, 0, 100⟩ = 110) := by show _ = _; decide
        go_enter Tryd.func7, Tryd.ntmps7
        go_wp2_with fail
        refine Calls.mono (HA.out _ (Same.refl _ w)) ?_
        rintro r w1 ⟨rfl, k1⟩
        have K1 : Hid (Kept w w1) := k1
        clear k1
        go_wp2_with fail
        refine Calls.mono (HU.out _) ?_
        rintro r w2 ⟨rfl, k2⟩
        have K2 : Hid (Kept w w2) := K1.out.trans' k2
        clear k2 K1
        go_upto_region 33 with fail
        have K3 : Hid (Kept w (w2.alloc (.cells #[.int .i64 4096, .int .i64 1, .int .i64 1048576, .int .i64 0, .int .i64 100] 23))) := K2.out.alloc _
        have B3 : Hid ((w2.alloc (.cells #[.int .i64 4096, .int .i64 1, .int .i64 1048576, .int .i64 0, .int .i64 100] 23)).heap[w2.heap.size]? = some (.cells #[.int .i64 4096, .int .i64 1, .int .i64 1048576, .int .i64 0, .int .i64 100] 23 (0, 0))) := heap_new _ _
        generalize w2.alloc (.cells #[.int .i64 4096, .int .i64 1, .int .i64 1048576, .int .i64 0, .int .i64 100] 23) = W3 at K3 B3 ⊢
        generalize w2.heap.size = g at B3 ⊢
        have c0 : W3.cell? ⟨g, 0, none⟩ = some (.int .i64 4096) := cell_of B3.out 0
        have c1 : W3.cell? ⟨g, 1, none⟩ = some (.int .i64 1) := cell_of B3.out 1
        have c2 : W3.cell? ⟨g, 2, none⟩ = some (.int .i64 1048576) := cell_of B3.out 2
        have c3 : W3.cell? ⟨g, 3, none⟩ = some (.int .i64 0) := cell_of B3.out 3
        have c4 : W3.cell? ⟨g, 4, none⟩ = some (.int .i64 100) := cell_of B3.out 4
        have yl := lt_of_heap B3.out
        go_wp2_with fail
        refine Calls.mono (HC.out 4096 1 1048576 0 100 _) ?_
        rintro r w4 ⟨rfl, k4⟩
        rw [HQ.out]
        have K4 : Hid (Kept w w4) := K3.out.trans' k4
        have B4 : Hid (w4.heap[g]? = some (.cells #[.int .i64 4096, .int .i64 1, .int .i64 1048576, .int .i64 0, .int .i64 100] 23 (0, 0))) := (k4.block _ (lt_of_heap B3.out) (fun e => e)).trans B3.out
        clear k4 B3 K3 c0 c1 c2 c3 c4 yl
        have c0 : w4.cell? ⟨g, 0, none⟩ = some (.int .i64 4096) := cell_of B4.out 0
        have c1 : w4.cell? ⟨g, 1, none⟩ = some (.int .i64 1) := cell_of B4.out 1
        have c2 : w4.cell? ⟨g, 2, none⟩ = some (.int .i64 1048576) := cell_of B4.out 2
        have c3 : w4.cell? ⟨g, 3, none⟩ = some (.int .i64 0) := cell_of B4.out 3
        have c4 : w4.cell? ⟨g, 4, none⟩ = some (.int .i64 100) := cell_of B4.out 4
        have yl := lt_of_heap B4.out
        have HN : Hid (Nn ⟨4096, 1, 1048576, 0, 100⟩) := by
          intro k
          unfold fl
          split <;> simp
        have HR : Hid (parseC (pr ⟨4096, 1, 1048576, 0, 100⟩ 5) = (zC, 110)) := by
          show _ = _
          rw [parse_pr HN.out, HQ.out]
          rfl
        go_wp2_with fail
        refine Calls.mono (HT.out 4096 1 1048576 0 100 HN.out _) ?_
        rintro r w5 ⟨rfl, k5⟩
        have K5 : Hid (Kept w w5) := K4.out.trans' k5
        have B5 : Hid (w5.heap[g]? = some (.cells #[.int .i64 4096, .int .i64 1, .int .i64 1048576, .int .i64 0, .int .i64 100] 23 (0, 0))) := (k5.block _ (lt_of_heap B4.out) (fun e => e)).trans B4.out
        clear k5 B4 K4 c0 c1 c2 c3 c4 yl
        go_wp2_with fail
        refine Calls.mono (HP.out _ HN.out _) ?_
        rintro r w6 ⟨rfl, k6⟩
        rw [HR.out]
        simp only [paV, zC]
        have K6 : Hid (Kept w w6) := K5.out.trans' k6
        have B6 : Hid (w6.heap[g]? = some (.cells #[.int .i64 4096, .int .i64 1, .int .i64 1048576, .int .i64 0, .int .i64 100] 23 (0, 0))) := (k6.block _ (lt_of_heap B5.out) (fun e => e)).trans B5.out
        clear k6 B5 K5
        have c0 : w6.cell? ⟨g, 0, none⟩ = some (.int .i64 4096) := cell_of B6.out 0
        have c1 : w6.cell? ⟨g, 1, none⟩ = some (.int .i64 1) := cell_of B6.out 1
        have c2 : w6.cell? ⟨g, 2, none⟩ = some (.int .i64 1048576) := cell_of B6.out 2
        have c3 : w6.cell? ⟨g, 3, none⟩ = some (.int .i64 0) := cell_of B6.out 3
        have c4 : w6.cell? ⟨g, 4, none⟩ = some (.int .i64 100) := cell_of B6.out 4
        have yl := lt_of_heap B6.out
        go_wp2_with fail
        go_ret
        exact ⟨rfl, K6.out.alloc _⟩
    · cases p
      · have HQ : Hid (chk ⟨4096, 64, 1048576, 0, 100⟩ = 0) := by show _ = _; decide
        go_enter Tryd.func7, Tryd.ntmps7
        go_wp2_with fail
        refine Calls.mono (HA.out _ (Same.refl _ w)) ?_
        rintro r w1 ⟨rfl, k1⟩
        have K1 : Hid (Kept w w1) := k1
        clear k1
        go_wp2_with fail
        refine Calls.mono (HU.out _) ?_
        rintro r w2 ⟨rfl, k2⟩
        have K2 : Hid (Kept w w2) := K1.out.trans' k2
        clear k2 K1
        go_upto_region 33 with fail
        have K3 : Hid (Kept w (w2.alloc (.cells #[.int .i64 4096, .int .i64 64, .int .i64 1048576, .int .i64 0, .int .i64 100] 23))) := K2.out.alloc _
        have B3 : Hid ((w2.alloc (.cells #[.int .i64 4096, .int .i64 64, .int .i64 1048576, .int .i64 0, .int .i64 100] 23)).heap[w2.heap.size]? = some (.cells #[.int .i64 4096, .int .i64 64, .int .i64 1048576, .int .i64 0, .int .i64 100] 23 (0, 0))) := heap_new _ _
        generalize w2.alloc (.cells #[.int .i64 4096, .int .i64 64, .int .i64 1048576, .int .i64 0, .int .i64 100] 23) = W3 at K3 B3 ⊢
        generalize w2.heap.size = g at B3 ⊢
        have c0 : W3.cell? ⟨g, 0, none⟩ = some (.int .i64 4096) := cell_of B3.out 0
        have c1 : W3.cell? ⟨g, 1, none⟩ = some (.int .i64 64) := cell_of B3.out 1
        have c2 : W3.cell? ⟨g, 2, none⟩ = some (.int .i64 1048576) := cell_of B3.out 2
        have c3 : W3.cell? ⟨g, 3, none⟩ = some (.int .i64 0) := cell_of B3.out 3
        have c4 : W3.cell? ⟨g, 4, none⟩ = some (.int .i64 100) := cell_of B3.out 4
        have yl := lt_of_heap B3.out
        go_wp2_with fail
        refine Calls.mono (HC.out 4096 64 1048576 0 100 _) ?_
        rintro r w4 ⟨rfl, k4⟩
        rw [HQ.out]
        have K4 : Hid (Kept w w4) := K3.out.trans' k4
        have B4 : Hid (w4.heap[g]? = some (.cells #[.int .i64 4096, .int .i64 64, .int .i64 1048576, .int .i64 0, .int .i64 100] 23 (0, 0))) := (k4.block _ (lt_of_heap B3.out) (fun e => e)).trans B3.out
        clear k4 B3 K3 c0 c1 c2 c3 c4 yl
        have c0 : w4.cell? ⟨g, 0, none⟩ = some (.int .i64 4096) := cell_of B4.out 0
        have c1 : w4.cell? ⟨g, 1, none⟩ = some (.int .i64 64) := cell_of B4.out 1
        have c2 : w4.cell? ⟨g, 2, none⟩ = some (.int .i64 1048576) := cell_of B4.out 2
        have c3 : w4.cell? ⟨g, 3, none⟩ = some (.int .i64 0) := cell_of B4.out 3
        have c4 : w4.cell? ⟨g, 4, none⟩ = some (.int .i64 100) := cell_of B4.out 4
        have yl := lt_of_heap B4.out
        have HN : Hid (Nn ⟨4096, 64, 1048576, 0, 100⟩) := by
          intro k
          unfold fl
          split <;> simp
        have HR : Hid (parseC (pr ⟨4096, 64, 1048576, 0, 100⟩ 5) = (⟨4096, 64, 1048576, 0, 100⟩, 0)) := by
          show _ = _
          rw [parse_pr HN.out, HQ.out]
          rfl
        go_wp2_with fail
        refine Calls.mono (HT.out 4096 64 1048576 0 100 HN.out _) ?_
        rintro r w5 ⟨rfl, k5⟩
        have K5 : Hid (Kept w w5) := K4.out.trans' k5
        have B5 : Hid (w5.heap[g]? = some (.cells #[.int .i64 4096, .int .i64 64, .int .i64 1048576, .int .i64 0, .int .i64 100] 23 (0, 0))) := (k5.block _ (lt_of_heap B4.out) (fun e => e)).trans B4.out
        clear k5 B4 K4 c0 c1 c2 c3 c4 yl
        go_wp2_with fail
        refine Calls.mono (HP.out _ HN.out _) ?_
        rintro r w6 ⟨rfl, k6⟩
        rw [HR.out]
        simp only [paV]
        have K6 : Hid (Kept w w6) := K5.out.trans' k6
        have B6 : Hid (w6.heap[g]? = some (.cells #[.int .i64 4096, .int .i64 64, .int .i64 1048576, .int .i64 0, .int .i64 100] 23 (0, 0))) := (k6.block _ (lt_of_heap B5.out) (fun e => e)).trans B5.out
        clear k6 B5 K5
        have c0 : w6.cell? ⟨g, 0, none⟩ = some (.int .i64 4096) := cell_of B6.out 0
        have c1 : w6.cell? ⟨g, 1, none⟩ = some (.int .i64 64) := cell_of B6.out 1
        have c2 : w6.cell? ⟨g, 2, none⟩ = some (.int .i64 1048576) := cell_of B6.out 2
        have c3 : w6.cell? ⟨g, 3, none⟩ = some (.int .i64 0) := cell_of B6.out 3
        have c4 : w6.cell? ⟨g, 4, none⟩ = some (.int .i64 100) := cell_of B6.out 4
        have yl := lt_of_heap B6.out
        go_wp2_with fail
        go_ret
        exact ⟨rfl, K6.out.alloc _⟩
      · have HQ : Hid (chk ⟨4096, 65, 1048576, 0, 100⟩ = 110) := by show _ = _; decide
        go_enter Tryd.func7, Tryd.ntmps7
        go_wp2_with fail
        refine Calls.mono (HA.out _ (Same.refl _ w)) ?_
        rintro r w1 ⟨rfl, k1⟩
        have K1 : Hid (Kept w w1) := k1
        clear k1
        go_wp2_with fail
        refine Calls.mono (HU.out _) ?_
        rintro r w2 ⟨rfl, k2⟩
        have K2 : Hid (Kept w w2) := K1.out.trans' k2
        clear k2 K1
        go_upto_region 33 with fail
        have K3 : Hid (Kept w (w2.alloc (.cells #[.int .i64 4096, .int .i64 65, .int .i64 1048576, .int .i64 0, .int .i64 100] 23))) := K2.out.alloc _
        have B3 : Hid ((w2.alloc (.cells #[.int .i64 4096, .int .i64 65, .int .i64 1048576, .int .i64 0, .int .i64 100] 23)).heap[w2.heap.size]? = some (.cells #[.int .i64 4096, .int .i64 65, .int .i64 1048576, .int .i64 0, .int .i64 100] 23 (0, 0))) := heap_new _ _
        generalize w2.alloc (.cells #[.int .i64 4096, .int .i64 65, .int .i64 1048576, .int .i64 0, .int .i64 100] 23) = W3 at K3 B3 ⊢
        generalize w2.heap.size = g at B3 ⊢
        have c0 : W3.cell? ⟨g, 0, none⟩ = some (.int .i64 4096) := cell_of B3.out 0
        have c1 : W3.cell? ⟨g, 1, none⟩ = some (.int .i64 65) := cell_of B3.out 1
        have c2 : W3.cell? ⟨g, 2, none⟩ = some (.int .i64 1048576) := cell_of B3.out 2
        have c3 : W3.cell? ⟨g, 3, none⟩ = some (.int .i64 0) := cell_of B3.out 3
        have c4 : W3.cell? ⟨g, 4, none⟩ = some (.int .i64 100) := cell_of B3.out 4
        have yl := lt_of_heap B3.out
        go_wp2_with fail
        refine Calls.mono (HC.out 4096 65 1048576 0 100 _) ?_
        rintro r w4 ⟨rfl, k4⟩
        rw [HQ.out]
        have K4 : Hid (Kept w w4) := K3.out.trans' k4
        have B4 : Hid (w4.heap[g]? = some (.cells #[.int .i64 4096, .int .i64 65, .int .i64 1048576, .int .i64 0, .int .i64 100] 23 (0, 0))) := (k4.block _ (lt_of_heap B3.out) (fun e => e)).trans B3.out
        clear k4 B3 K3 c0 c1 c2 c3 c4 yl
        have c0 : w4.cell? ⟨g, 0, none⟩ = some (.int .i64 4096) := cell_of B4.out 0
        have c1 : w4.cell? ⟨g, 1, none⟩ = some (.int .i64 65) := cell_of B4.out 1
        have c2 : w4.cell? ⟨g, 2, none⟩ = some (.int .i64 1048576) := cell_of B4.out 2
        have c3 : w4.cell? ⟨g, 3, none⟩ = some (.int .i64 0) := cell_of B4.out 3
        have c4 : w4.cell? ⟨g, 4, none⟩ = some (.int .i64 100) := cell_of B4.out 4
        have yl := lt_of_heap B4.out
        have HN : Hid (Nn ⟨4096, 65, 1048576, 0, 100⟩) := by
          intro k
          unfold fl
          split <;> simp
        have HR : Hid (parseC (pr ⟨4096, 65, 1048576, 0, 100⟩ 5) = (zC, 110)) := by
          show _ = _
          rw [parse_pr HN.out, HQ.out]
          rfl
        go_wp2_with fail
        refine Calls.mono (HT.out 4096 65 1048576 0 100 HN.out _) ?_
        rintro r w5 ⟨rfl, k5⟩
        have K5 : Hid (Kept w w5) := K4.out.trans' k5
        have B5 : Hid (w5.heap[g]? = some (.cells #[.int .i64 4096, .int .i64 65, .int .i64 1048576, .int .i64 0, .int .i64 100] 23 (0, 0))) := (k5.block _ (lt_of_heap B4.out) (fun e => e)).trans B4.out
        clear k5 B4 K4 c0 c1 c2 c3 c4 yl
        go_wp2_with fail
        refine Calls.mono (HP.out _ HN.out _) ?_
        rintro r w6 ⟨rfl, k6⟩
        rw [HR.out]
        simp only [paV, zC]
        have K6 : Hid (Kept w w6) := K5.out.trans' k6
        have B6 : Hid (w6.heap[g]? = some (.cells #[.int .i64 4096, .int .i64 65, .int .i64 1048576, .int .i64 0, .int .i64 100] 23 (0, 0))) := (k6.block _ (lt_of_heap B5.out) (fun e => e)).trans B5.out
        clear k6 B5 K5
        have c0 : w6.cell? ⟨g, 0, none⟩ = some (.int .i64 4096) := cell_of B6.out 0
        have c1 : w6.cell? ⟨g, 1, none⟩ = some (.int .i64 65) := cell_of B6.out 1
        have c2 : w6.cell? ⟨g, 2, none⟩ = some (.int .i64 1048576) := cell_of B6.out 2
        have c3 : w6.cell? ⟨g, 3, none⟩ = some (.int .i64 0) := cell_of B6.out 3
        have c4 : w6.cell? ⟨g, 4, none⟩ = some (.int .i64 100) := cell_of B6.out 4
        have yl := lt_of_heap B6.out
        go_wp2_with fail
        go_ret
        exact ⟨rfl, K6.out.alloc _⟩
    · cases p
      · have HQ : Hid (chk ⟨4096, 8, 0, 0, 100⟩ = 0) := by show _ = _; decide
        go_enter Tryd.func7, Tryd.ntmps7
        go_wp2_with fail
        refine Calls.mono (HA.out _ (Same.refl _ w)) ?_
        rintro r w1 ⟨rfl, k1⟩
        have K1 : Hid (Kept w w1) := k1
        clear k1
        go_wp2_with fail
        refine Calls.mono (HU.out _) ?_
        rintro r w2 ⟨rfl, k2⟩
        have K2 : Hid (Kept w w2) := K1.out.trans' k2
        clear k2 K1
        go_upto_region 33 with fail
        have K3 : Hid (Kept w (w2.alloc (.cells #[.int .i64 4096, .int .i64 8, .int .i64 0, .int .i64 0, .int .i64 100] 23))) := K2.out.alloc _
        have B3 : Hid ((w2.alloc (.cells #[.int .i64 4096, .int .i64 8, .int .i64 0, .int .i64 0, .int .i64 100] 23)).heap[w2.heap.size]? = some (.cells #[.int .i64 4096, .int .i64 8, .int .i64 0, .int .i64 0, .int .i64 100] 23 (0, 0))) := heap_new _ _
        generalize w2.alloc (.cells #[.int .i64 4096, .int .i64 8, .int .i64 0, .int .i64 0, .int .i64 100] 23) = W3 at K3 B3 ⊢
        generalize w2.heap.size = g at B3 ⊢
        have c0 : W3.cell? ⟨g, 0, none⟩ = some (.int .i64 4096) := cell_of B3.out 0
        have c1 : W3.cell? ⟨g, 1, none⟩ = some (.int .i64 8) := cell_of B3.out 1
        have c2 : W3.cell? ⟨g, 2, none⟩ = some (.int .i64 0) := cell_of B3.out 2
        have c3 : W3.cell? ⟨g, 3, none⟩ = some (.int .i64 0) := cell_of B3.out 3
        have c4 : W3.cell? ⟨g, 4, none⟩ = some (.int .i64 100) := cell_of B3.out 4
        have yl := lt_of_heap B3.out
        go_wp2_with fail
        refine Calls.mono (HC.out 4096 8 0 0 100 _) ?_
        rintro r w4 ⟨rfl, k4⟩
        rw [HQ.out]
        have K4 : Hid (Kept w w4) := K3.out.trans' k4
        have B4 : Hid (w4.heap[g]? = some (.cells #[.int .i64 4096, .int .i64 8, .int .i64 0, .int .i64 0, .int .i64 100] 23 (0, 0))) := (k4.block _ (lt_of_heap B3.out) (fun e => e)).trans B3.out
        clear k4 B3 K3 c0 c1 c2 c3 c4 yl
        have c0 : w4.cell? ⟨g, 0, none⟩ = some (.int .i64 4096) := cell_of B4.out 0
        have c1 : w4.cell? ⟨g, 1, none⟩ = some (.int .i64 8) := cell_of B4.out 1
        have c2 : w4.cell? ⟨g, 2, none⟩ = some (.int .i64 0) := cell_of B4.out 2
        have c3 : w4.cell? ⟨g, 3, none⟩ = some (.int .i64 0) := cell_of B4.out 3
        have c4 : w4.cell? ⟨g, 4, none⟩ = some (.int .i64 100) := cell_of B4.out 4
        have yl := lt_of_heap B4.out
        have HN : Hid (Nn ⟨4096, 8, 0, 0, 100⟩) := by
          intro k
          unfold fl
          split <;> simp
        have HR : Hid (parseC (pr ⟨4096, 8, 0, 0, 100⟩ 5) = (⟨4096, 8, 0, 0, 100⟩, 0)) := by
          show _ = _
          rw [parse_pr HN.out, HQ.out]
          rfl
        go_wp2_with fail
        refine Calls.mono (HT.out 4096 8 0 0 100 HN.out _) ?_
        rintro r w5 ⟨rfl, k5⟩
        have K5 : Hid (Kept w w5) := K4.out.trans' k5
        have B5 : Hid (w5.heap[g]? = some (.cells #[.int .i64 4096, .int .i64 8, .int .i64 0, .int .i64 0, .int .i64 100] 23 (0, 0))) := (k5.block _ (lt_of_heap B4.out) (fun e => e)).trans B4.out
        clear k5 B4 K4 c0 c1 c2 c3 c4 yl
        go_wp2_with fail
        refine Calls.mono (HP.out _ HN.out _) ?_
        rintro r w6 ⟨rfl, k6⟩
        rw [HR.out]
        simp only [paV]
        have K6 : Hid (Kept w w6) := K5.out.trans' k6
        have B6 : Hid (w6.heap[g]? = some (.cells #[.int .i64 4096, .int .i64 8, .int .i64 0, .int .i64 0, .int .i64 100] 23 (0, 0))) := (k6.block _ (lt_of_heap B5.out) (fun e => e)).trans B5.out
        clear k6 B5 K5
        have c0 : w6.cell? ⟨g, 0, none⟩ = some (.int .i64 4096) := cell_of B6.out 0
        have c1 : w6.cell? ⟨g, 1, none⟩ = some (.int .i64 8) := cell_of B6.out 1
        have c2 : w6.cell? ⟨g, 2, none⟩ = some (.int .i64 0) := cell_of B6.out 2
        have c3 : w6.cell? ⟨g, 3, none⟩ = some (.int .i64 0) := cell_of B6.out 3
        have c4 : w6.cell? ⟨g, 4, none⟩ = some (.int .i64 100) := cell_of B6.out 4
        have yl := lt_of_heap B6.out
        go_wp2_with fail
        go_ret
        exact ⟨rfl, K6.out.alloc _⟩
      · have HQ : Hid (chk ⟨4096, 8, (-1), 0, 100⟩ = 160) := by show _ = _; decide
        go_enter Tryd.func7, Tryd.ntmps7
        go_wp2_with fail
        refine Calls.mono (HA.out _ (Same.refl _ w)) ?_
        rintro r w1 ⟨rfl, k1⟩
        have K1 : Hid (Kept w w1) := k1
        clear k1
        go_wp2_with fail
        refine Calls.mono (HU.out _) ?_
        rintro r w2 ⟨rfl, k2⟩
        have K2 : Hid (Kept w w2) := K1.out.trans' k2
        clear k2 K1
        go_upto_region 33 with fail
        have K3 : Hid (Kept w (w2.alloc (.cells #[.int .i64 4096, .int .i64 8, .int .i64 (-1), .int .i64 0, .int .i64 100] 23))) := K2.out.alloc _
        have B3 : Hid ((w2.alloc (.cells #[.int .i64 4096, .int .i64 8, .int .i64 (-1), .int .i64 0, .int .i64 100] 23)).heap[w2.heap.size]? = some (.cells #[.int .i64 4096, .int .i64 8, .int .i64 (-1), .int .i64 0, .int .i64 100] 23 (0, 0))) := heap_new _ _
        generalize w2.alloc (.cells #[.int .i64 4096, .int .i64 8, .int .i64 (-1), .int .i64 0, .int .i64 100] 23) = W3 at K3 B3 ⊢
        generalize w2.heap.size = g at B3 ⊢
        have c0 : W3.cell? ⟨g, 0, none⟩ = some (.int .i64 4096) := cell_of B3.out 0
        have c1 : W3.cell? ⟨g, 1, none⟩ = some (.int .i64 8) := cell_of B3.out 1
        have c2 : W3.cell? ⟨g, 2, none⟩ = some (.int .i64 (-1)) := cell_of B3.out 2
        have c3 : W3.cell? ⟨g, 3, none⟩ = some (.int .i64 0) := cell_of B3.out 3
        have c4 : W3.cell? ⟨g, 4, none⟩ = some (.int .i64 100) := cell_of B3.out 4
        have yl := lt_of_heap B3.out
        go_wp2_with fail
        refine Calls.mono (HC.out 4096 8 (-1) 0 100 _) ?_
        rintro r w4 ⟨rfl, k4⟩
        rw [HQ.out]
        have K4 : Hid (Kept w w4) := K3.out.trans' k4
        have B4 : Hid (w4.heap[g]? = some (.cells #[.int .i64 4096, .int .i64 8, .int .i64 (-1), .int .i64 0, .int .i64 100] 23 (0, 0))) := (k4.block _ (lt_of_heap B3.out) (fun e => e)).trans B3.out
        clear k4 B3 K3 c0 c1 c2 c3 c4 yl
        go_wp2_with fail
        go_ret
        exact ⟨rfl, K4.out⟩
    · cases p
      · have HQ : Hid (chk ⟨4096, 8, 1048576, 0, 100⟩ = 0) := by show _ = _; decide
        go_enter Tryd.func7, Tryd.ntmps7
        go_wp2_with fail
        refine Calls.mono (HA.out _ (Same.refl _ w)) ?_
        rintro r w1 ⟨rfl, k1⟩
        have K1 : Hid (Kept w w1) := k1
        clear k1
        go_wp2_with fail
        refine Calls.mono (HU.out _) ?_
        rintro r w2 ⟨rfl, k2⟩
        have K2 : Hid (Kept w w2) := K1.out.trans' k2
        clear k2 K1
        go_upto_region 33 with fail
        have K3 : Hid (Kept w (w2.alloc (.cells #[.int .i64 4096, .int .i64 8, .int .i64 1048576, .int .i64 0, .int .i64 100] 23))) := K2.out.alloc _
        have B3 : Hid ((w2.alloc (.cells #[.int .i64 4096, .int .i64 8, .int .i64 1048576, .int .i64 0, .int .i64 100] 23)).heap[w2.heap.size]? = some (.cells #[.int .i64 4096, .int .i64 8, .int .i64 1048576, .int .i64 0, .int .i64 100] 23 (0, 0))) := heap_new _ _
        generalize w2.alloc (.cells #[.int .i64 4096, .int .i64 8, .int .i64 1048576, .int .i64 0, .int .i64 100] 23) = W3 at K3 B3 ⊢
        generalize w2.heap.size = g at B3 ⊢
        have c0 : W3.cell? ⟨g, 0, none⟩ = some (.int .i64 4096) := cell_of B3.out 0
        have c1 : W3.cell? ⟨g, 1, none⟩ = some (.int .i64 8) := cell_of B3.out 1
        have c2 : W3.cell? ⟨g, 2, none⟩ = some (.int .i64 1048576) := cell_of B3.out 2
        have c3 : W3.cell? ⟨g, 3, none⟩ = some (.int .i64 0) := cell_of B3.out 3
        have c4 : W3.cell? ⟨g, 4, none⟩ = some (.int .i64 100) := cell_of B3.out 4
        have yl := lt_of_heap B3.out
        go_wp2_with fail
        refine Calls.mono (HC.out 4096 8 1048576 0 100 _) ?_
        rintro r w4 ⟨rfl, k4⟩
        rw [HQ.out]
        have K4 : Hid (Kept w w4) := K3.out.trans' k4
        have B4 : Hid (w4.heap[g]? = some (.cells #[.int .i64 4096, .int .i64 8, .int .i64 1048576, .int .i64 0, .int .i64 100] 23 (0, 0))) := (k4.block _ (lt_of_heap B3.out) (fun e => e)).trans B3.out
        clear k4 B3 K3 c0 c1 c2 c3 c4 yl
        have c0 : w4.cell? ⟨g, 0, none⟩ = some (.int .i64 4096) := cell_of B4.out 0
        have c1 : w4.cell? ⟨g, 1, none⟩ = some (.int .i64 8) := cell_of B4.out 1
        have c2 : w4.cell? ⟨g, 2, none⟩ = some (.int .i64 1048576) := cell_of B4.out 2
        have c3 : w4.cell? ⟨g, 3, none⟩ = some (.int .i64 0) := cell_of B4.out 3
        have c4 : w4.cell? ⟨g, 4, none⟩ = some (.int .i64 100) := cell_of B4.out 4
        have yl := lt_of_heap B4.out
        have HN : Hid (Nn ⟨4096, 8, 1048576, 0, 100⟩) := by
          intro k
          unfold fl
          split <;> simp
        have HR : Hid (parseC (pr ⟨4096, 8, 1048576, 0, 100⟩ 5) = (⟨4096, 8, 1048576, 0, 100⟩, 0)) := by
          show _ = _
          rw [parse_pr HN.out, HQ.out]
          rfl
        go_wp2_with fail
        refine Calls.mono (HT.out 4096 8 1048576 0 100 HN.out _) ?_
        rintro r w5 ⟨rfl, k5⟩
        have K5 : Hid (Kept w w5) := K4.out.trans' k5
        have B5 : Hid (w5.heap[g]? = some (.cells #[.int .i64 4096, .int .i64 8, .int .i64 1048576, .int .i64 0, .int .i64 100] 23 (0, 0))) := (k5.block _ (lt_of_heap B4.out) (fun e => e)).trans B4.out
        clear k5 B4 K4 c0 c1 c2 c3 c4 yl
        go_wp2_with fail
        refine Calls.mono (HP.out _ HN.out _) ?_
        rintro r w6 ⟨rfl, k6⟩
        rw [HR.out]
        simp only [paV]
        have K6 : Hid (Kept w w6) := K5.out.trans' k6
        have B6 : Hid (w6.heap[g]? = some (.cells #[.int .i64 4096, .int .i64 8, .int .i64 1048576, .int .i64 0, .int .i64 100] 23 (0, 0))) := (k6.block _ (lt_of_heap B5.out) (fun e => e)).trans B5.out
        clear k6 B5 K5
        have c0 : w6.cell? ⟨g, 0, none⟩ = some (.int .i64 4096) := cell_of B6.out 0
        have c1 : w6.cell? ⟨g, 1, none⟩ = some (.int .i64 8) := cell_of B6.out 1
        have c2 : w6.cell? ⟨g, 2, none⟩ = some (.int .i64 1048576) := cell_of B6.out 2
        have c3 : w6.cell? ⟨g, 3, none⟩ = some (.int .i64 0) := cell_of B6.out 3
        have c4 : w6.cell? ⟨g, 4, none⟩ = some (.int .i64 100) := cell_of B6.out 4
        have yl := lt_of_heap B6.out
        go_wp2_with fail
        go_ret
        exact ⟨rfl, K6.out.alloc _⟩
      · have HQ : Hid (chk ⟨4096, 8, 1048577, 0, 100⟩ = 160) := by show _ = _; decide
        go_enter Tryd.func7, Tryd.ntmps7
        go_wp2_with fail
        refine Calls.mono (HA.out _ (Same.refl _ w)) ?_
        rintro r w1 ⟨rfl, k1⟩
        have K1 : Hid (Kept w w1) := k1
        clear k1
        go_wp2_with fail
        refine Calls.mono (HU.out _) ?_
        rintro r w2 ⟨rfl, k2⟩
        have K2 : Hid (Kept w w2) := K1.out.trans' k2
        clear k2 K1
        go_upto_region 33 with fail
        have K3 : Hid (Kept w (w2.alloc (.cells #[.int .i64 4096, .int .i64 8, .int .i64 1048577, .int .i64 0, .int .i64 100] 23))) := K2.out.alloc _
        have B3 : Hid ((w2.alloc (.cells #[.int .i64 4096, .int .i64 8, .int .i64 1048577, .int .i64 0, .int .i64 100] 23)).heap[w2.heap.size]? = some (.cells #[.int .i64 4096, .int .i64 8, .int .i64 1048577, .int .i64 0, .int .i64 100] 23 (0, 0))) := heap_new _ _
        generalize w2.alloc (.cells #[.int .i64 4096, .int .i64 8, .int .i64 1048577, .int .i64 0, .int .i64 100] 23) = W3 at K3 B3 ⊢
        generalize w2.heap.size = g at B3 ⊢
        have c0 : W3.cell? ⟨g, 0, none⟩ = some (.int .i64 4096) := cell_of B3.out 0
        have c1 : W3.cell? ⟨g, 1, none⟩ = some (.int .i64 8) := cell_of B3.out 1
        have c2 : W3.cell? ⟨g, 2, none⟩ = some (.int .i64 1048577) := cell_of B3.out 2
        have c3 : W3.cell? ⟨g, 3, none⟩ = some (.int .i64 0) := cell_of B3.out 3
        have c4 : W3.cell? ⟨g, 4, none⟩ = some (.int .i64 100) := cell_of B3.out 4
        have yl := lt_of_heap B3.out
        go_wp2_with fail
        refine Calls.mono (HC.out 4096 8 1048577 0 100 _) ?_
        rintro r w4 ⟨rfl, k4⟩
        rw [HQ.out]
        have K4 : Hid (Kept w w4) := K3.out.trans' k4
        have B4 : Hid (w4.heap[g]? = some (.cells #[.int .i64 4096, .int .i64 8, .int .i64 1048577, .int .i64 0, .int .i64 100] 23 (0, 0))) := (k4.block _ (lt_of_heap B3.out) (fun e => e)).trans B3.out
        clear k4 B3 K3 c0 c1 c2 c3 c4 yl
        have c0 : w4.cell? ⟨g, 0, none⟩ = some (.int .i64 4096) := cell_of B4.out 0
        have c1 : w4.cell? ⟨g, 1, none⟩ = some (.int .i64 8) := cell_of B4.out 1
        have c2 : w4.cell? ⟨g, 2, none⟩ = some (.int .i64 1048577) := cell_of B4.out 2
        have c3 : w4.cell? ⟨g, 3, none⟩ = some (.int .i64 0) := cell_of B4.out 3
        have c4 : w4.cell? ⟨g, 4, none⟩ = some (.int .i64 100) := cell_of B4.out 4
        have yl := lt_of_heap B4.out
        have HN : Hid (Nn ⟨4096, 8, 1048577, 0, 100⟩) := by
          intro k
          unfold fl
          split <;> simp
        have HR : Hid (parseC (pr ⟨4096, 8, 1048577, 0, 100⟩ 5) = (zC, 160)) := by
          show _ = _
          rw [parse_pr HN.out, HQ.out]
          rfl
        go_wp2_with fail
        refine Calls.mono (HT.out 4096 8 1048577 0 100 HN.out _) ?_
        rintro r w5 ⟨rfl, k5⟩
        have K5 : Hid (Kept w w5) := K4.out.trans' k5
        have B5 : Hid (w5.heap[g]? = some (.cells #[.int .i64 4096, .int .i64 8, .int .i64 1048577, .int .i64 0, .int .i64 100] 23 (0, 0))) := (k5.block _ (lt_of_heap B4.out) (fun e => e)).trans B4.out
        clear k5 B4 K4 c0 c1 c2 c3 c4 yl
        go_wp2_with fail
        refine Calls.mono (HP.out _ HN.out _) ?_
        rintro r w6 ⟨rfl, k6⟩
        rw [HR.out]
        simp only [paV, zC]
        have K6 : Hid (Kept w w6) := K5.out.trans' k6
        have B6 : Hid (w6.heap[g]? = some (.cells #[.int .i64 4096, .int .i64 8, .int .i64 1048577, .int .i64 0, .int .i64 100] 23 (0, 0))) := (k6.block _ (lt_of_heap B5.out) (fun e => e)).trans B5.out
        clear k6 B5 K5
        have c0 : w6.cell? ⟨g, 0, none⟩ = some (.int .i64 4096) := cell_of B6.out 0
        have c1 : w6.cell? ⟨g, 1, none⟩ = some (.int .i64 8) := cell_of B6.out 1
        have c2 : w6.cell? ⟨g, 2, none⟩ = some (.int .i64 1048577) := cell_of B6.out 2
        have c3 : w6.cell? ⟨g, 3, none⟩ = some (.int .i64 0) := cell_of B6.out 3
        have c4 : w6.cell? ⟨g, 4, none⟩ = some (.int .i64 100) := cell_of B6.out 4
        have yl := lt_of_heap B6.out
        go_wp2_with fail
        go_ret
        exact ⟨rfl, K6.out.alloc _⟩
    · cases p
      · have HQ : Hid (chk ⟨4096, 8, 1048576, 0, 100⟩ = 0) := by show _ = _; decide
        go_enter Tryd.func7, Tryd.ntmps7
        go_wp2_with fail
        refine Calls.mono (HA.out _ (Same.refl _ w)) ?_
        rintro r w1 ⟨rfl, k1⟩
        have K1 : Hid (Kept w w1) := k1
        clear k1
        go_wp2_with fail
        refine Calls.mono (HU.out _) ?_
        rintro r w2 ⟨rfl, k2⟩
        have K2 : Hid (Kept w w2) := K1.out.trans' k2
        clear k2 K1
        go_upto_region 33 with fail
        have K3 : Hid (Kept w (w2.alloc (.cells #[.int .i64 4096, .int .i64 8, .int .i64 1048576, .int .i64 0, .int .i64 100] 23))) := K2.out.alloc _
        have B3 : Hid ((w2.alloc (.cells #[.int .i64 4096, .int .i64 8, .int .i64 1048576, .int .i64 0, .int .i64 100] 23)).heap[w2.heap.size]? = some (.cells #[.int .i64 4096, .int .i64 8, .int .i64 1048576, .int .i64 0, .int .i64 100] 23 (0, 0))) := heap_new _ _
        generalize w2.alloc (.cells #[.int .i64 4096, .int .i64 8, .int .i64 1048576, .int .i64 0, .int .i64 100] 23) = W3 at K3 B3 ⊢
        generalize w2.heap.size = g at B3 ⊢
        have c0 : W3.cell? ⟨g, 0, none⟩ = some (.int .i64 4096) := cell_of B3.out 0
        have c1 : W3.cell? ⟨g, 1, none⟩ = some (.int .i64 8) := cell_of B3.out 1
        have c2 : W3.cell? ⟨g, 2, none⟩ = some (.int .i64 1048576) := cell_of B3.out 2
        have c3 : W3.cell? ⟨g, 3, none⟩ = some (.int .i64 0) := cell_of B3.out 3
        have c4 : W3.cell? ⟨g, 4, none⟩ = some (.int .i64 100) := cell_of B3.out 4
        have yl := lt_of_heap B3.out
        go_wp2_with fail
        refine Calls.mono (HC.out 4096 8 1048576 0 100 _) ?_
        rintro r w4 ⟨rfl, k4⟩
        rw [HQ.out]
        have K4 : Hid (Kept w w4) := K3.out.trans' k4
        have B4 : Hid (w4.heap[g]? = some (.cells #[.int .i64 4096, .int .i64 8, .int .i64 1048576, .int .i64 0, .int .i64 100] 23 (0, 0))) := (k4.block _ (lt_of_heap B3.out) (fun e => e)).trans B3.out
        clear k4 B3 K3 c0 c1 c2 c3 c4 yl
        have c0 : w4.cell? ⟨g, 0, none⟩ = some (.int .i64 4096) := cell_of B4.out 0
        have c1 : w4.cell? ⟨g, 1, none⟩ = some (.int .i64 8) := cell_of B4.out 1
        have c2 : w4.cell? ⟨g, 2, none⟩ = some (.int .i64 1048576) := cell_of B4.out 2
        have c3 : w4.cell? ⟨g, 3, none⟩ = some (.int .i64 0) := cell_of B4.out 3
        have c4 : w4.cell? ⟨g, 4, none⟩ = some (.int .i64 100) := cell_of B4.out 4
        have yl := lt_of_heap B4.out
        have HN : Hid (Nn ⟨4096, 8, 1048576, 0, 100⟩) := by
          intro k
          unfold fl
          split <;> simp
        have HR : Hid (parseC (pr ⟨4096, 8, 1048576, 0, 100⟩ 5) = (⟨4096, 8, 1048576, 0, 100⟩, 0)) := by
          show _ = _
          rw [parse_pr HN.out, HQ.out]
          rfl
        go_wp2_with fail
        refine Calls.mono (HT.out 4096 8 1048576 0 100 HN.out _) ?_
        rintro r w5 ⟨rfl, k5⟩
        have K5 : Hid (Kept w w5) := K4.out.trans' k5
        have B5 : Hid (w5.heap[g]? = some (.cells #[.int .i64 4096, .int .i64 8, .int .i64 1048576, .int .i64 0, .int .i64 100] 23 (0, 0))) := (k5.block _ (lt_of_heap B4.out) (fun e => e)).trans B4.out
        clear k5 B4 K4 c0 c1 c2 c3 c4 yl
        go_wp2_with fail
        refine Calls.mono (HP.out _ HN.out _) ?_
        rintro r w6 ⟨rfl, k6⟩
        rw [HR.out]
        simp only [paV]
        have K6 : Hid (Kept w w6) := K5.out.trans' k6
        have B6 : Hid (w6.heap[g]? = some (.cells #[.int .i64 4096, .int .i64 8, .int .i64 1048576, .int .i64 0, .int .i64 100] 23 (0, 0))) := (k6.block _ (lt_of_heap B5.out) (fun e => e)).trans B5.out
        clear k6 B5 K5
        have c0 : w6.cell? ⟨g, 0, none⟩ = some (.int .i64 4096) := cell_of B6.out 0
        have c1 : w6.cell? ⟨g, 1, none⟩ = some (.int .i64 8) := cell_of B6.out 1
        have c2 : w6.cell? ⟨g, 2, none⟩ = some (.int .i64 1048576) := cell_of B6.out 2
        have c3 : w6.cell? ⟨g, 3, none⟩ = some (.int .i64 0) := cell_of B6.out 3
        have c4 : w6.cell? ⟨g, 4, none⟩ = some (.int .i64 100) := cell_of B6.out 4
        have yl := lt_of_heap B6.out
        go_wp2_with fail
        go_ret
        exact ⟨rfl, K6.out.alloc _⟩
      · have HQ : Hid (chk ⟨4096, 8, 1048576, (-1), 100⟩ = 171) := by show _ = _; decide
        go_enter Tryd.func7, Tryd.ntmps7
        go_wp2_with fail
        refine Calls.mono (HA.out _ (Same.refl _ w)) ?_
        rintro r w1 ⟨rfl, k1⟩
        have K1 : Hid (Kept w w1) := k1
        clear k1
        go_wp2_with fail
        refine Calls.mono (HU.out _) ?_
        rintro r w2 ⟨rfl, k2⟩
        have K2 : Hid (Kept w w2) := K1.out.trans' k2
        clear k2 K1
        go_upto_region 33 with fail
        have K3 : Hid (Kept w (w2.alloc (.cells #[.int .i64 4096, .int .i64 8, .int .i64 1048576, .int .i64 (-1), .int .i64 100] 23))) := K2.out.alloc _
        have B3 : Hid ((w2.alloc (.cells #[.int .i64 4096, .int .i64 8, .int .i64 1048576, .int .i64 (-1), .int .i64 100] 23)).heap[w2.heap.size]? = some (.cells #[.int .i64 4096, .int .i64 8, .int .i64 1048576, .int .i64 (-1), .int .i64 100] 23 (0, 0))) := heap_new _ _
        generalize w2.alloc (.cells #[.int .i64 4096, .int .i64 8, .int .i64 1048576, .int .i64 (-1), .int .i64 100] 23) = W3 at K3 B3 ⊢
        generalize w2.heap.size = g at B3 ⊢
        have c0 : W3.cell? ⟨g, 0, none⟩ = some (.int .i64 4096) := cell_of B3.out 0
        have c1 : W3.cell? ⟨g, 1, none⟩ = some (.int .i64 8) := cell_of B3.out 1
        have c2 : W3.cell? ⟨g, 2, none⟩ = some (.int .i64 1048576) := cell_of B3.out 2
        have c3 : W3.cell? ⟨g, 3, none⟩ = some (.int .i64 (-1)) := cell_of B3.out 3
        have c4 : W3.cell? ⟨g, 4, none⟩ = some (.int .i64 100) := cell_of B3.out 4
        have yl := lt_of_heap B3.out
        go_wp2_with fail
        refine Calls.mono (HC.out 4096 8 1048576 (-1) 100 _) ?_
        rintro r w4 ⟨rfl, k4⟩
        rw [HQ.out]
        have K4 : Hid (Kept w w4) := K3.out.trans' k4
        have B4 : Hid (w4.heap[g]? = some (.cells #[.int .i64 4096, .int .i64 8, .int .i64 1048576, .int .i64 (-1), .int .i64 100] 23 (0, 0))) := (k4.block _ (lt_of_heap B3.out) (fun e => e)).trans B3.out
        clear k4 B3 K3 c0 c1 c2 c3 c4 yl
        go_wp2_with fail
        go_ret
        exact ⟨rfl, K4.out⟩
    · cases p
      · have HQ : Hid (chk ⟨4096, 8, 1048576, 1099511627776, 100⟩ = 0) := by show _ = _; decide
        go_enter Tryd.func7, Tryd.ntmps7
        go_wp2_with fail
        refine Calls.mono (HA.out _ (Same.refl _ w)) ?_
        rintro r w1 ⟨rfl, k1⟩
        have K1 : Hid (Kept w w1) := k1
        clear k1
        go_wp2_with fail
        refine Calls.mono (HU.out _) ?_
        rintro r w2 ⟨rfl, k2⟩
        have K2 : Hid (Kept w w2) := K1.out.trans' k2
        clear k2 K1
        go_upto_region 33 with fail
        have K3 : Hid (Kept w (w2.alloc (.cells #[.int .i64 4096, .int .i64 8, .int .i64 1048576, .int .i64 1099511627776, .int .i64 100] 23))) := K2.out.alloc _
        have B3 : Hid ((w2.alloc (.cells #[.int .i64 4096, .int .i64 8, .int .i64 1048576, .int .i64 1099511627776, .int .i64 100] 23)).heap[w2.heap.size]? = some (.cells #[.int .i64 4096, .int .i64 8, .int .i64 1048576, .int .i64 1099511627776, .int .i64 100] 23 (0, 0))) := heap_new _ _
        generalize w2.alloc (.cells #[.int .i64 4096, .int .i64 8, .int .i64 1048576, .int .i64 1099511627776, .int .i64 100] 23) = W3 at K3 B3 ⊢
        generalize w2.heap.size = g at B3 ⊢
        have c0 : W3.cell? ⟨g, 0, none⟩ = some (.int .i64 4096) := cell_of B3.out 0
        have c1 : W3.cell? ⟨g, 1, none⟩ = some (.int .i64 8) := cell_of B3.out 1
        have c2 : W3.cell? ⟨g, 2, none⟩ = some (.int .i64 1048576) := cell_of B3.out 2
        have c3 : W3.cell? ⟨g, 3, none⟩ = some (.int .i64 1099511627776) := cell_of B3.out 3
        have c4 : W3.cell? ⟨g, 4, none⟩ = some (.int .i64 100) := cell_of B3.out 4
        have yl := lt_of_heap B3.out
        go_wp2_with fail
        refine Calls.mono (HC.out 4096 8 1048576 1099511627776 100 _) ?_
        rintro r w4 ⟨rfl, k4⟩
        rw [HQ.out]
        have K4 : Hid (Kept w w4) := K3.out.trans' k4
        have B4 : Hid (w4.heap[g]? = some (.cells #[.int .i64 4096, .int .i64 8, .int .i64 1048576, .int .i64 1099511627776, .int .i64 100] 23 (0, 0))) := (k4.block _ (lt_of_heap B3.out) (fun e => e)).trans B3.out
        clear k4 B3 K3 c0 c1 c2 c3 c4 yl
        have c0 : w4.cell? ⟨g, 0, none⟩ = some (.int .i64 4096) := cell_of B4.out 0
        have c1 : w4.cell? ⟨g, 1, none⟩ = some (.int .i64 8) := cell_of B4.out 1
        have c2 : w4.cell? ⟨g, 2, none⟩ = some (.int .i64 1048576) := cell_of B4.out 2
        have c3 : w4.cell? ⟨g, 3, none⟩ = some (.int .i64 1099511627776) := cell_of B4.out 3
        have c4 : w4.cell? ⟨g, 4, none⟩ = some (.int .i64 100) := cell_of B4.out 4
        have yl := lt_of_heap B4.out
        have HN : Hid (Nn ⟨4096, 8, 1048576, 1099511627776, 100⟩) := by
          intro k
          unfold fl
          split <;> simp
        have HR : Hid (parseC (pr ⟨4096, 8, 1048576, 1099511627776, 100⟩ 5) = (⟨4096, 8, 1048576, 1099511627776, 100⟩, 0)) := by
          show _ = _
          rw [parse_pr HN.out, HQ.out]
          rfl
        go_wp2_with fail
        refine Calls.mono (HT.out 4096 8 1048576 1099511627776 100 HN.out _) ?_
        rintro r w5 ⟨rfl, k5⟩
        have K5 : Hid (Kept w w5) := K4.out.trans' k5
        have B5 : Hid (w5.heap[g]? = some (.cells #[.int .i64 4096, .int .i64 8, .int .i64 1048576, .int .i64 1099511627776, .int .i64 100] 23 (0, 0))) := (k5.block _ (lt_of_heap B4.out) (fun e => e)).trans B4.out
        clear k5 B4 K4 c0 c1 c2 c3 c4 yl
        go_wp2_with fail
        refine Calls.mono (HP.out _ HN.out _) ?_
        rintro r w6 ⟨rfl, k6⟩
        rw [HR.out]
        simp only [paV]
        have K6 : Hid (Kept w w6) := K5.out.trans' k6
        have B6 : Hid (w6.heap[g]? = some (.cells #[.int .i64 4096, .int .i64 8, .int .i64 1048576, .int .i64 1099511627776, .int .i64 100] 23 (0, 0))) := (k6.block _ (lt_of_heap B5.out) (fun e => e)).trans B5.out
        clear k6 B5 K5
        have c0 : w6.cell? ⟨g, 0, none⟩ = some (.int .i64 4096) := cell_of B6.out 0
        have c1 : w6.cell? ⟨g, 1, none⟩ = some (.int .i64 8) := cell_of B6.out 1
        have c2 : w6.cell? ⟨g, 2, none⟩ = some (.int .i64 1048576) := cell_of B6.out 2
        have c3 : w6.cell? ⟨g, 3, none⟩ = some (.int .i64 1099511627776) := cell_of B6.out 3
        have c4 : w6.cell? ⟨g, 4, none⟩ = some (.int .i64 100) := cell_of B6.out 4
        have yl := lt_of_heap B6.out
        go_wp2_with fail
        go_ret
        exact ⟨rfl, K6.out.alloc _⟩
      · have HQ : Hid (chk ⟨4096, 8, 1048576, 1099511627777, 100⟩ = 171) := by show _ = _; decide
        go_enter Tryd.func7, Tryd.ntmps7
        go_wp2_with fail
        refine Calls.mono (HA.out _ (Same.refl _ w)) ?_
        rintro r w1 ⟨rfl, k1⟩
        have K1 : Hid (Kept w w1) := k1
        clear k1
        go_wp2_with fail
        refine Calls.mono (HU.out _) ?_
        rintro r w2 ⟨rfl, k2⟩
        have K2 : Hid (Kept w w2) := K1.out.trans' k2
        clear k2 K1
        go_upto_region 33 with fail
        have K3 : Hid (Kept w (w2.alloc (.cells #[.int .i64 4096, .int .i64 8, .int .i64 1048576, .int .i64 1099511627777, .int .i64 100] 23))) := K2.out.alloc _
        have B3 : Hid ((w2.alloc (.cells #[.int .i64 4096, .int .i64 8, .int .i64 1048576, .int .i64 1099511627777, .int .i64 100] 23)).heap[w2.heap.size]? = some (.cells #[.int .i64 4096, .int .i64 8, .int .i64 1048576, .int .i64 1099511627777, .int .i64 100] 23 (0, 0))) := heap_new _ _
        generalize w2.alloc (.cells #[.int .i64 4096, .int .i64 8, .int .i64 1048576, .int .i64 1099511627777, .int .i64 100] 23) = W3 at K3 B3 ⊢
        generalize w2.heap.size = g at B3 ⊢
        have c0 : W3.cell? ⟨g, 0, none⟩ = some (.int .i64 4096) := cell_of B3.out 0
        have c1 : W3.cell? ⟨g, 1, none⟩ = some (.int .i64 8) := cell_of B3.out 1
        have c2 : W3.cell? ⟨g, 2, none⟩ = some (.int .i64 1048576) := cell_of B3.out 2
        have c3 : W3.cell? ⟨g, 3, none⟩ = some (.int .i64 1099511627777) := cell_of B3.out 3
        have c4 : W3.cell? ⟨g, 4, none⟩ = some (.int .i64 100) := cell_of B3.out 4
        have yl := lt_of_heap B3.out
        go_wp2_with fail
        refine Calls.mono (HC.out 4096 8 1048576 1099511627777 100 _) ?_
        rintro r w4 ⟨rfl, k4⟩
        rw [HQ.out]
        have K4 : Hid (Kept w w4) := K3.out.trans' k4
        have B4 : Hid (w4.heap[g]? = some (.cells #[.int .i64 4096, .int .i64 8, .int .i64 1048576, .int .i64 1099511627777, .int .i64 100] 23 (0, 0))) := (k4.block _ (lt_of_heap B3.out) (fun e => e)).trans B3.out
        clear k4 B3 K3 c0 c1 c2 c3 c4 yl
        have c0 : w4.cell? ⟨g, 0, none⟩ = some (.int .i64 4096) := cell_of B4.out 0
        have c1 : w4.cell? ⟨g, 1, none⟩ = some (.int .i64 8) := cell_of B4.out 1
        have c2 : w4.cell? ⟨g, 2, none⟩ = some (.int .i64 1048576) := cell_of B4.out 2
        have c3 : w4.cell? ⟨g, 3, none⟩ = some (.int .i64 1099511627777) := cell_of B4.out 3
        have c4 : w4.cell? ⟨g, 4, none⟩ = some (.int .i64 100) := cell_of B4.out 4
        have yl := lt_of_heap B4.out
        have HN : Hid (Nn ⟨4096, 8, 1048576, 1099511627777, 100⟩) := by
          intro k
          unfold fl
          split <;> simp
        have HR : Hid (parseC (pr ⟨4096, 8, 1048576, 1099511627777, 100⟩ 5) = (zC, 171)) := by
          show _ = _
          rw [parse_pr HN.out, HQ.out]
          rfl
        go_wp2_with fail
        refine Calls.mono (HT.out 4096 8 1048576 1099511627777 100 HN.out _) ?_
        rintro r w5 ⟨rfl, k5⟩
        have K5 : Hid (Kept w w5) := K4.out.trans' k5
        have B5 : Hid (w5.heap[g]? = some (.cells #[.int .i64 4096, .int .i64 8, .int .i64 1048576, .int .i64 1099511627777, .int .i64 100] 23 (0, 0))) := (k5.block _ (lt_of_heap B4.out) (fun e => e)).trans B4.out
        clear k5 B4 K4 c0 c1 c2 c3 c4 yl
        go_wp2_with fail
        refine Calls.mono (HP.out _ HN.out _) ?_
        rintro r w6 ⟨rfl, k6⟩
        rw [HR.out]
        simp only [paV, zC]
        have K6 : Hid (Kept w w6) := K5.out.trans' k6
        have B6 : Hid (w6.heap[g]? = some (.cells #[.int .i64 4096, .int .i64 8, .int .i64 1048576, .int .i64 1099511627777, .int .i64 100] 23 (0, 0))) := (k6.block _ (lt_of_heap B5.out) (fun e => e)).trans B5.out
        clear k6 B5 K5
        have c0 : w6.cell? ⟨g, 0, none⟩ = some (.int .i64 4096) := cell_of B6.out 0
        have c1 : w6.cell? ⟨g, 1, none⟩ = some (.int .i64 8) := cell_of B6.out 1
        have c2 : w6.cell? ⟨g, 2, none⟩ = some (.int .i64 1048576) := cell_of B6.out 2
        have c3 : w6.cell? ⟨g, 3, none⟩ = some (.int .i64 1099511627777) := cell_of B6.out 3
        have c4 : w6.cell? ⟨g, 4, none⟩ = some (.int .i64 100) := cell_of B6.out 4
        have yl := lt_of_heap B6.out
        go_wp2_with fail
        go_ret
        exact ⟨rfl, K6.out.alloc _⟩
    · cases p
      · have HQ : Hid (chk ⟨4096, 8, 1048576, 0, 0⟩ = 0) := by show _ = _; decide
        go_enter Tryd.func7, Tryd.ntmps7
        go_wp2_with fail
        refine Calls.mono (HA.out _ (Same.refl _ w)) ?_
        rintro r w1 ⟨rfl, k1⟩
        have K1 : Hid (Kept w w1) := k1
        clear k1
        go_wp2_with fail
        refine Calls.mono (HU.out _) ?_
        rintro r w2 ⟨rfl, k2⟩
        have K2 : Hid (Kept w w2) := K1.out.trans' k2
        clear k2 K1
        go_upto_region 33 with fail
        have K3 : Hid (Kept w (w2.alloc (.cells #[.int .i64 4096, .int .i64 8, .int .i64 1048576, .int .i64 0, .int .i64 0] 23))) := K2.out.alloc _
        have B3 : Hid ((w2.alloc (.cells #[.int .i64 4096, .int .i64 8, .int .i64 1048576, .int .i64 0, .int .i64 0] 23)).heap[w2.heap.size]? = some (.cells #[.int .i64 4096, .int .i64 8, .int .i64 1048576, .int .i64 0, .int .i64 0] 23 (0, 0))) := heap_new _ _
        generalize w2.alloc (.cells #[.int .i64 4096, .int .i64 8, .int .i64 1048576, .int .i64 0, .int .i64 0] 23) = W3 at K3 B3 ⊢
        generalize w2.heap.size = g at B3 ⊢
        have c0 : W3.cell? ⟨g, 0, none⟩ = some (.int .i64 4096) := cell_of B3.out 0
        have c1 : W3.cell? ⟨g, 1, none⟩ = some (.int .i64 8) := cell_of B3.out 1
        have c2 : W3.cell? ⟨g, 2, none⟩ = some (.int .i64 1048576) := cell_of B3.out 2
        have c3 : W3.cell? ⟨g, 3, none⟩ = some (.int .i64 0) := cell_of B3.out 3
        have c4 : W3.cell? ⟨g, 4, none⟩ = some (.int .i64 0) := cell_of B3.out 4
        have yl := lt_of_heap B3.out
        go_wp2_with fail
        refine Calls.mono (HC.out 4096 8 1048576 0 0 _) ?_
        rintro r w4 ⟨rfl, k4⟩
        rw [HQ.out]
        have K4 : Hid (Kept w w4) := K3.out.trans' k4
        have B4 : Hid (w4.heap[g]? = some (.cells #[.int .i64 4096, .int .i64 8, .int .i64 1048576, .int .i64 0, .int .i64 0] 23 (0, 0))) := (k4.block _ (lt_of_heap B3.out) (fun e => e)).trans B3.out
        clear k4 B3 K3 c0 c1 c2 c3 c4 yl
        have c0 : w4.cell? ⟨g, 0, none⟩ = some (.int .i64 4096) := cell_of B4.out 0
        have c1 : w4.cell? ⟨g, 1, none⟩ = some (.int .i64 8) := cell_of B4.out 1
        have c2 : w4.cell? ⟨g, 2, none⟩ = some (.int .i64 1048576) := cell_of B4.out 2
        have c3 : w4.cell? ⟨g, 3, none⟩ = some (.int .i64 0) := cell_of B4.out 3
        have c4 : w4.cell? ⟨g, 4, none⟩ = some (.int .i64 0) := cell_of B4.out 4
        have yl := lt_of_heap B4.out
        have HN : Hid (Nn ⟨4096, 8, 1048576, 0, 0⟩) := by
          intro k
          unfold fl
          split <;> simp
        have HR : Hid (parseC (pr ⟨4096, 8, 1048576, 0, 0⟩ 5) = (⟨4096, 8, 1048576, 0, 0⟩, 0)) := by
          show _ = _
          rw [parse_pr HN.out, HQ.out]
          rfl
        go_wp2_with fail
        refine Calls.mono (HT.out 4096 8 1048576 0 0 HN.out _) ?_
        rintro r w5 ⟨rfl, k5⟩
        have K5 : Hid (Kept w w5) := K4.out.trans' k5
        have B5 : Hid (w5.heap[g]? = some (.cells #[.int .i64 4096, .int .i64 8, .int .i64 1048576, .int .i64 0, .int .i64 0] 23 (0, 0))) := (k5.block _ (lt_of_heap B4.out) (fun e => e)).trans B4.out
        clear k5 B4 K4 c0 c1 c2 c3 c4 yl
        go_wp2_with fail
        refine Calls.mono (HP.out _ HN.out _) ?_
        rintro r w6 ⟨rfl, k6⟩
        rw [HR.out]
        simp only [paV]
        have K6 : Hid (Kept w w6) := K5.out.trans' k6
        have B6 : Hid (w6.heap[g]? = some (.cells #[.int .i64 4096, .int .i64 8, .int .i64 1048576, .int .i64 0, .int .i64 0] 23 (0, 0))) := (k6.block _ (lt_of_heap B5.out) (fun e => e)).trans B5.out
        clear k6 B5 K5
        have c0 : w6.cell? ⟨g, 0, none⟩ = some (.int .i64 4096) := cell_of B6.out 0
        have c1 : w6.cell? ⟨g, 1, none⟩ = some (.int .i64 8) := cell_of B6.out 1
        have c2 : w6.cell? ⟨g, 2, none⟩ = some (.int .i64 1048576) := cell_of B6.out 2
        have c3 : w6.cell? ⟨g, 3, none⟩ = some (.int .i64 0) := cell_of B6.out 3
        have c4 : w6.cell? ⟨g, 4, none⟩ = some (.int .i64 0) := cell_of B6.out 4
        have yl := lt_of_heap B6.out
        go_wp2_with fail
        go_ret
        exact ⟨rfl, K6.out.alloc _⟩
      · have HQ : Hid (chk ⟨4096, 8, 1048576, 0, (-1)⟩ = 180) := by show _ = _; decide
        go_enter Tryd.func7, Tryd.ntmps7
        go_wp2_with fail
        refine Calls.mono (HA.out _ (Same.refl _ w)) ?_
        rintro r w1 ⟨rfl, k1⟩
        have K1 : Hid (Kept w w1) := k1
        clear k1
        go_wp2_with fail
        refine Calls.mono (HU.out _) ?_
        rintro r w2 ⟨rfl, k2⟩
        have K2 : Hid (Kept w w2) := K1.out.trans' k2
        clear k2 K1
        go_upto_region 33 with fail
        have K3 : Hid (Kept w (w2.alloc (.cells #[.int .i64 4096, .int .i64 8, .int .i64 1048576, .int .i64 0, .int .i64 (-1)] 23))) := K2.out.alloc _
        have B3 : Hid ((w2.alloc (.cells #[.int .i64 4096, .int .i64 8, .int .i64 1048576, .int .i64 0, .int .i64 (-1)] 23)).heap[w2.heap.size]? = some (.cells #[.int .i64 4096, .int .i64 8, .int .i64 1048576, .int .i64 0, .int .i64 (-1)] 23 (0, 0))) := heap_new _ _
        generalize w2.alloc (.cells #[.int .i64 4096, .int .i64 8, .int .i64 1048576, .int .i64 0, .int .i64 (-1)] 23) = W3 at K3 B3 ⊢
        generalize w2.heap.size = g at B3 ⊢
        have c0 : W3.cell? ⟨g, 0, none⟩ = some (.int .i64 4096) := cell_of B3.out 0
        have c1 : W3.cell? ⟨g, 1, none⟩ = some (.int .i64 8) := cell_of B3.out 1
        have c2 : W3.cell? ⟨g, 2, none⟩ = some (.int .i64 1048576) := cell_of B3.out 2
        have c3 : W3.cell? ⟨g, 3, none⟩ = some (.int .i64 0) := cell_of B3.out 3
        have c4 : W3.cell? ⟨g, 4, none⟩ = some (.int .i64 (-1)) := cell_of B3.out 4
        have yl := lt_of_heap B3.out
        go_wp2_with fail
        refine Calls.mono (HC.out 4096 8 1048576 0 (-1) _) ?_
        rintro r w4 ⟨rfl, k4⟩
        rw [HQ.out]
        have K4 : Hid (Kept w w4) := K3.out.trans' k4
        have B4 : Hid (w4.heap[g]? = some (.cells #[.int .i64 4096, .int .i64 8, .int .i64 1048576, .int .i64 0, .int .i64 (-1)] 23 (0, 0))) := (k4.block _ (lt_of_heap B3.out) (fun e => e)).trans B3.out
        clear k4 B3 K3 c0 c1 c2 c3 c4 yl
        go_wp2_with fail
        go_ret
        exact ⟨rfl, K4.out⟩
    · cases p
      · have HQ : Hid (chk ⟨4096, 8, 1048576, 0, 10000⟩ = 0) := by show _ = _; decide
        go_enter Tryd.func7, Tryd.ntmps7
        go_wp2_with fail
        refine Calls.mono (HA.out _ (Same.refl _ w)) ?_
        rintro r w1 ⟨rfl, k1⟩
        have K1 : Hid (Kept w w1) := k1
        clear k1
        go_wp2_with fail
        refine Calls.mono (HU.out _) ?_
        rintro r w2 ⟨rfl, k2⟩
        have K2 : Hid (Kept w w2) := K1.out.trans' k2
        clear k2 K1
        go_upto_region 33 with fail
        have K3 : Hid (Kept w (w2.alloc (.cells #[.int .i64 4096, .int .i64 8, .int .i64 1048576, .int .i64 0, .int .i64 10000] 23))) := K2.out.alloc _
        have B3 : Hid ((w2.alloc (.cells #[.int .i64 4096, .int .i64 8, .int .i64 1048576, .int .i64 0, .int .i64 10000] 23)).heap[w2.heap.size]? = some (.cells #[.int .i64 4096, .int .i64 8, .int .i64 1048576, .int .i64 0, .int .i64 10000] 23 (0, 0))) := heap_new _ _
        generalize w2.alloc (.cells #[.int .i64 4096, .int .i64 8, .int .i64 1048576, .int .i64 0, .int .i64 10000] 23) = W3 at K3 B3 ⊢
        generalize w2.heap.size = g at B3 ⊢
        have c0 : W3.cell? ⟨g, 0, none⟩ = some (.int .i64 4096) := cell_of B3.out 0
        have c1 : W3.cell? ⟨g, 1, none⟩ = some (.int .i64 8) := cell_of B3.out 1
        have c2 : W3.cell? ⟨g, 2, none⟩ = some (.int .i64 1048576) := cell_of B3.out 2
        have c3 : W3.cell? ⟨g, 3, none⟩ = some (.int .i64 0) := cell_of B3.out 3
        have c4 : W3.cell? ⟨g, 4, none⟩ = some (.int .i64 10000) := cell_of B3.out 4
        have yl := lt_of_heap B3.out
        go_wp2_with fail
        refine Calls.mono (HC.out 4096 8 1048576 0 10000 _) ?_
        rintro r w4 ⟨rfl, k4⟩
        rw [HQ.out]
        have K4 : Hid (Kept w w4) := K3.out.trans' k4
        have B4 : Hid (w4.heap[g]? = some (.cells #[.int .i64 4096, .int .i64 8, .int .i64 1048576, .int .i64 0, .int .i64 10000] 23 (0, 0))) := (k4.block _ (lt_of_heap B3.out) (fun e => e)).trans B3.out
        clear k4 B3 K3 c0 c1 c2 c3 c4 yl
        have c0 : w4.cell? ⟨g, 0, none⟩ = some (.int .i64 4096) := cell_of B4.out 0
        have c1 : w4.cell? ⟨g, 1, none⟩ = some (.int .i64 8) := cell_of B4.out 1
        have c2 : w4.cell? ⟨g, 2, none⟩ = some (.int .i64 1048576) := cell_of B4.out 2
        have c3 : w4.cell? ⟨g, 3, none⟩ = some (.int .i64 0) := cell_of B4.out 3
        have c4 : w4.cell? ⟨g, 4, none⟩ = some (.int .i64 10000) := cell_of B4.out 4
        have yl := lt_of_heap B4.out
        have HN : Hid (Nn ⟨4096, 8, 1048576, 0, 10000⟩) := by
          intro k
          unfold fl
          split <;> simp
        have HR : Hid (parseC (pr ⟨4096, 8, 1048576, 0, 10000⟩ 5) = (⟨4096, 8, 1048576, 0, 10000⟩, 0)) := by
          show _ = _
          rw [parse_pr HN.out, HQ.out]
          rfl
        go_wp2_with fail
        refine Calls.mono (HT.out 4096 8 1048576 0 10000 HN.out _) ?_
        rintro r w5 ⟨rfl, k5⟩
        have K5 : Hid (Kept w w5) := K4.out.trans' k5
        have B5 : Hid (w5.heap[g]? = some (.cells #[.int .i64 4096, .int .i64 8, .int .i64 1048576, .int .i64 0, .int .i64 10000] 23 (0, 0))) := (k5.block _ (lt_of_heap B4.out) (fun e => e)).trans B4.out
        clear k5 B4 K4 c0 c1 c2 c3 c4 yl
        go_wp2_with fail
        refine Calls.mono (HP.out _ HN.out _) ?_
        rintro r w6 ⟨rfl, k6⟩
        rw [HR.out]
        simp only [paV]
        have K6 : Hid (Kept w w6) := K5.out.trans' k6
        have B6 : Hid (w6.heap[g]? = some (.cells #[.int .i64 4096, .int .i64 8, .int .i64 1048576, .int .i64 0, .int .i64 10000] 23 (0, 0))) := (k6.block _ (lt_of_heap B5.out) (fun e => e)).trans B5.out
        clear k6 B5 K5
        have c0 : w6.cell? ⟨g, 0, none⟩ = some (.int .i64 4096) := cell_of B6.out 0
        have c1 : w6.cell? ⟨g, 1, none⟩ = some (.int .i64 8) := cell_of B6.out 1
        have c2 : w6.cell? ⟨g, 2, none⟩ = some (.int .i64 1048576) := cell_of B6.out 2
        have c3 : w6.cell? ⟨g, 3, none⟩ = some (.int .i64 0) := cell_of B6.out 3
        have c4 : w6.cell? ⟨g, 4, none⟩ = some (.int .i64 10000) := cell_of B6.out 4
        have yl := lt_of_heap B6.out
        go_wp2_with fail
        go_ret
        exact ⟨rfl, K6.out.alloc _⟩
      · have HQ : Hid (chk ⟨4096, 8, 1048576, 0, 10001⟩ = 180) := by show _ = _; decide
        go_enter Tryd.func7, Tryd.ntmps7
        go_wp2_with fail
        refine Calls.mono (HA.out _ (Same.refl _ w)) ?_
        rintro r w1 ⟨rfl, k1⟩
        have K1 : Hid (Kept w w1) := k1
        clear k1
        go_wp2_with fail
        refine Calls.mono (HU.out _) ?_
        rintro r w2 ⟨rfl, k2⟩
        have K2 : Hid (Kept w w2) := K1.out.trans' k2
        clear k2 K1
        go_upto_region 33 with fail
        have K3 : Hid (Kept w (w2.alloc (.cells #[.int .i64 4096, .int .i64 8, .int .i64 1048576, .int .i64 0, .int .i64 10001] 23))) := K2.out.alloc _
        have B3 : Hid ((w2.alloc (.cells #[.int .i64 4096, .int .i64 8, .int .i64 1048576, .int .i64 0, .int .i64 10001] 23)).heap[w2.heap.size]? = some (.cells #[.int .i64 4096, .int .i64 8, .int .i64 1048576, .int .i64 0, .int .i64 10001] 23 (0, 0))) := heap_new _ _
        generalize w2.alloc (.cells #[.int .i64 4096, .int .i64 8, .int .i64 1048576, .int .i64 0, .int .i64 10001] 23) = W3 at K3 B3 ⊢
        generalize w2.heap.size = g at B3 ⊢
        have c0 : W3.cell? ⟨g, 0, none⟩ = some (.int .i64 4096) := cell_of B3.out 0
        have c1 : W3.cell? ⟨g, 1, none⟩ = some (.int .i64 8) := cell_of B3.out 1
        have c2 : W3.cell? ⟨g, 2, none⟩ = some (.int .i64 1048576) := cell_of B3.out 2
        have c3 : W3.cell? ⟨g, 3, none⟩ = some (.int .i64 0) := cell_of B3.out 3
        have c4 : W3.cell? ⟨g, 4, none⟩ = some (.int .i64 10001) := cell_of B3.out 4
        have yl := lt_of_heap B3.out
        go_wp2_with fail
        refine Calls.mono (HC.out 4096 8 1048576 0 10001 _) ?_
        rintro r w4 ⟨rfl, k4⟩
        rw [HQ.out]
        have K4 : Hid (Kept w w4) := K3.out.trans' k4
        have B4 : Hid (w4.heap[g]? = some (.cells #[.int .i64 4096, .int .i64 8, .int .i64 1048576, .int .i64 0, .int .i64 10001] 23 (0, 0))) := (k4.block _ (lt_of_heap B3.out) (fun e => e)).trans B3.out
        clear k4 B3 K3 c0 c1 c2 c3 c4 yl
        have c0 : w4.cell? ⟨g, 0, none⟩ = some (.int .i64 4096) := cell_of B4.out 0
        have c1 : w4.cell? ⟨g, 1, none⟩ = some (.int .i64 8) := cell_of B4.out 1
        have c2 : w4.cell? ⟨g, 2, none⟩ = some (.int .i64 1048576) := cell_of B4.out 2
        have c3 : w4.cell? ⟨g, 3, none⟩ = some (.int .i64 0) := cell_of B4.out 3
        have c4 : w4.cell? ⟨g, 4, none⟩ = some (.int .i64 10001) := cell_of B4.out 4
        have yl := lt_of_heap B4.out
        have HN : Hid (Nn ⟨4096, 8, 1048576, 0, 10001⟩) := by
          intro k
          unfold fl
          split <;> simp
        have HR : Hid (parseC (pr ⟨4096, 8, 1048576, 0, 10001⟩ 5) = (zC, 180)) := by
          show _ = _
          rw [parse_pr HN.out, HQ.out]
          rfl
        go_wp2_with fail
        refine Calls.mono (HT.out 4096 8 1048576 0 10001 HN.out _) ?_
        rintro r w5 ⟨rfl, k5⟩
        have K5 : Hid (Kept w w5) := K4.out.trans' k5
        have B5 : Hid (w5.heap[g]? = some (.cells #[.int .i64 4096, .int .i64 8, .int .i64 1048576, .int .i64 0, .int .i64 10001] 23 (0, 0))) := (k5.block _ (lt_of_heap B4.out) (fun e => e)).trans B4.out
        clear k5 B4 K4 c0 c1 c2 c3 c4 yl
        go_wp2_with fail
        refine Calls.mono (HP.out _ HN.out _) ?_
        rintro r w6 ⟨rfl, k6⟩
        rw [HR.out]
        simp only [paV, zC]
        have K6 : Hid (Kept w w6) := K5.out.trans' k6
        have B6 : Hid (w6.heap[g]? = some (.cells #[.int .i64 4096, .int .i64 8, .int .i64 1048576, .int .i64 0, .int .i64 10001] 23 (0, 0))) := (k6.block _ (lt_of_heap B5.out) (fun e => e)).trans B5.out
        clear k6 B5 K5
        have c0 : w6.cell? ⟨g, 0, none⟩ = some (.int .i64 4096) := cell_of B6.out 0
        have c1 : w6.cell? ⟨g, 1, none⟩ = some (.int .i64 8) := cell_of B6.out 1
        have c2 : w6.cell? ⟨g, 2, none⟩ = some (.int .i64 1048576) := cell_of B6.out 2
        have c3 : w6.cell? ⟨g, 3, none⟩ = some (.int .i64 0) := cell_of B6.out 3
        have c4 : w6.cell? ⟨g, 4, none⟩ = some (.int .i64 10001) := cell_of B6.out 4
        have yl := lt_of_heap B6.out
        go_wp2_with fail
        go_ret
        exact ⟨rfl, K6.out.alloc _⟩
  · by_cases h0 : k < 0
    · have q1 : decide (k < 0) = true := decide_eq_true h0
      go_enter Tryd.func7, Tryd.ntmps7
      go_wp2_with fail
      refine Calls.mono (HA.out _ (Same.refl _ w)) ?_
      rintro r w1 ⟨rfl, k1⟩
      go_wp2_with fail
      go_ret
      exact ⟨rfl, k1⟩
    · have q1 : decide (k < 0) = false := decide_eq_false h0
      have q2 : decide (9 < k) = true := decide_eq_true (by omega)
      go_enter Tryd.func7, Tryd.ntmps7
      go_wp2_with fail
      refine Calls.mono (HA.out _ (Same.refl _ w)) ?_
      rintro r w1 ⟨rfl, k1⟩
      go_wp2_with fail
      go_ret
      exact ⟨rfl, k1⟩
end Go.Proofs.YtolooejcgdknnaaDoor
