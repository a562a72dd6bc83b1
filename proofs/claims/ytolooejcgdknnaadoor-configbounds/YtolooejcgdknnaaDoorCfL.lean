/- What is proved: the laws ConfigChecks and ConfigParses; conditions: the library's table of powers lies as its text lays it, and the text's length. -/
import Derived.Test.YtolooejcgdknnaaDoorCfZ
namespace Go.Proofs.YtolooejcgdknnaaDoor
open Go.RowKit

theorem Tab.upK {w : World} (ht : Tab w.heap.size w) : ∀ W, Kept w W → Tab W.heap.size W := fun _ k w' hb => ht w' ⟨hb.os.trans k.os, hb.tape.trans k.tape, hb.output.trans k.output, Nat.le_trans k.size hb.size, fun j hj => (hb.block j (Nat.lt_of_lt_of_le hj k.size)).trans (k.block j hj (fun e => e))⟩
theorem nn_ok {x : Cg} (h : chk x = 0) : Nn x := fun k => by have := fl_bd h k; omega
set_option maxRecDepth 100000 in
theorem checks_law (x : Cg) (w : World) (ht : Tab w.heap.size w) : Calls Tryd.prog 3 #[.agg #[.int .i64 x.a, .int .i64 x.b, .int .i64 x.c, .int .i64 x.d, .int .i64 x.e]] w fun e w' => e = .returned (.bool true) ∧ Kept w w' := by
  have HA : Hid (∀ W, Kept w W → _) := fun W k => anchor_any23 W (ht.upK W k)
  have HR : Hid (∀ W, _) := rcheck_any23 x
  have HP : Hid (∀ W, Kept w W → _) := fun W k => print_cf x W (ht.upK W k)
  have HC : Hid (∀ W, _) := check_cf x
  have HT : Hid (chk x = 0 → ∀ W, _) := fun h W => rtext_cf x (nn_ok h) W
  have E0 : Hid (chk x = 0 → printC x = (pr x 5, 0)) := fun h => by unfold printC; rw [h]; rfl
  have E1 : Hid (chk x ≠ 0 → printC x = ([], chk x)) := fun h => by unfold printC; rw [if_pos h]
  generalize printC x = PC at *
  clear ht
  go_enter Tryd.func3, Tryd.ntmps3
  go_wp2_with fail
  refine Calls.mono (HA.out _ ((Same.refl _ w).alloc _)) ?_
  rintro r w1 ⟨rfl, k1⟩
  have K1 : Hid (Kept w w1) := ((Same.refl _ w).alloc _).trans' k1
  have B1 : Hid (w1.heap[w.heap.size]? = some (.cells #[.int .i64 x.a, .int .i64 x.b, .int .i64 x.c, .int .i64 x.d, .int .i64 x.e] 23 (0, 0))) := (k1.block _ (by simp) (fun e => e)).trans (heap_new _ _)
  clear k1
  have c0 : w1.cell? ⟨w.heap.size, 0, none⟩ = some (.int .i64 x.a) := cell_of B1.out 0
  have c1 : w1.cell? ⟨w.heap.size, 1, none⟩ = some (.int .i64 x.b) := cell_of B1.out 1
  have c2 : w1.cell? ⟨w.heap.size, 2, none⟩ = some (.int .i64 x.c) := cell_of B1.out 2
  have c3 : w1.cell? ⟨w.heap.size, 3, none⟩ = some (.int .i64 x.d) := cell_of B1.out 3
  have c4 : w1.cell? ⟨w.heap.size, 4, none⟩ = some (.int .i64 x.e) := cell_of B1.out 4
  have yl := lt_of_heap B1.out
  go_wp2_with fail
  refine Calls.mono (HR.out _) ?_
  rintro r w2 ⟨rfl, k2⟩
  have K2 : Hid (Kept w w2) := K1.out.trans' k2
  have B2 : Hid (w2.heap[w.heap.size]? = some (.cells #[.int .i64 x.a, .int .i64 x.b, .int .i64 x.c, .int .i64 x.d, .int .i64 x.e] 23 (0, 0))) := (k2.block _ (lt_of_heap B1.out) (fun e => e)).trans B1.out
  clear k2 c0 c1 c2 c3 c4 yl B1 K1
  have c0 : w2.cell? ⟨w.heap.size, 0, none⟩ = some (.int .i64 x.a) := cell_of B2.out 0
  have c1 : w2.cell? ⟨w.heap.size, 1, none⟩ = some (.int .i64 x.b) := cell_of B2.out 1
  have c2 : w2.cell? ⟨w.heap.size, 2, none⟩ = some (.int .i64 x.c) := cell_of B2.out 2
  have c3 : w2.cell? ⟨w.heap.size, 3, none⟩ = some (.int .i64 x.d) := cell_of B2.out 3
  have c4 : w2.cell? ⟨w.heap.size, 4, none⟩ = some (.int .i64 x.e) := cell_of B2.out 4
  have yl := lt_of_heap B2.out
  go_wp2_with fail
  refine Calls.mono (HP.out _ K2.out) ?_
  rintro r w3 ⟨rfl, k3⟩
  have K3 : Hid (Kept w w3) := K2.out.trans' k3
  have B3 : Hid (w3.heap[w.heap.size]? = some (.cells #[.int .i64 x.a, .int .i64 x.b, .int .i64 x.c, .int .i64 x.d, .int .i64 x.e] 23 (0, 0))) := (k3.block _ (lt_of_heap B2.out) (fun e => e)).trans B2.out
  clear k3 c0 c1 c2 c3 c4 yl B2 K2
  have c0 : w3.cell? ⟨w.heap.size, 0, none⟩ = some (.int .i64 x.a) := cell_of B3.out 0
  have c1 : w3.cell? ⟨w.heap.size, 1, none⟩ = some (.int .i64 x.b) := cell_of B3.out 1
  have c2 : w3.cell? ⟨w.heap.size, 2, none⟩ = some (.int .i64 x.c) := cell_of B3.out 2
  have c3 : w3.cell? ⟨w.heap.size, 3, none⟩ = some (.int .i64 x.d) := cell_of B3.out 3
  have c4 : w3.cell? ⟨w.heap.size, 4, none⟩ = some (.int .i64 x.e) := cell_of B3.out 4
  have yl := lt_of_heap B3.out
  by_cases hz : chk x = 0
  · have HTX : Hid (∀ W, _) := HT.out hz
    rw [E0.out hz]
    rw [hz] at HC ⊢
    clear hz HT
    generalize pr x 5 = L at *
    go_wp2_with fail
    refine Calls.mono (HC.out _) ?_
    rintro r w4 ⟨rfl, k4⟩
    have K4 : Hid (Kept w w4) := K3.out.trans' k4
    have B4 : Hid (w4.heap[w.heap.size]? = some (.cells #[.int .i64 x.a, .int .i64 x.b, .int .i64 x.c, .int .i64 x.d, .int .i64 x.e] 23 (0, 0))) := (k4.block _ (lt_of_heap B3.out) (fun e => e)).trans B3.out
    clear k4 c0 c1 c2 c3 c4 yl B3 K3
    have c0 : w4.cell? ⟨w.heap.size, 0, none⟩ = some (.int .i64 x.a) := cell_of B4.out 0
    have c1 : w4.cell? ⟨w.heap.size, 1, none⟩ = some (.int .i64 x.b) := cell_of B4.out 1
    have c2 : w4.cell? ⟨w.heap.size, 2, none⟩ = some (.int .i64 x.c) := cell_of B4.out 2
    have c3 : w4.cell? ⟨w.heap.size, 3, none⟩ = some (.int .i64 x.d) := cell_of B4.out 3
    have c4 : w4.cell? ⟨w.heap.size, 4, none⟩ = some (.int .i64 x.e) := cell_of B4.out 4
    have yl := lt_of_heap B4.out
    go_wp2_with fail
    refine Calls.mono (HTX.out _) ?_
    rintro r w5 ⟨rfl, k5⟩
    have K5 : Hid (Kept w w5) := K4.out.trans' k5
    clear k5
    have q : (L == L) = true := by simp
    go_wp2_with fail
    go_ret
    exact ⟨rfl, K5.out⟩
  · rw [E1.out hz]
    have hq : (chk x != 0) = true := by simpa using hz
    have hq2 : (chk x != chk x) = false := by simp
    generalize chk x = Z at *
    clear hz HT
    go_wp2_with fail
    refine Calls.mono (HC.out _) ?_
    rintro r w4 ⟨rfl, k4⟩
    have K4 : Hid (Kept w w4) := K3.out.trans' k4
    clear k4
    go_wp2_with fail
    go_ret
    exact ⟨rfl, K4.out⟩
set_option maxRecDepth 100000 in
theorem parses_law (l : List UInt8) (w : World) (hl : l.length ≤ 281474976710656) (ht : Tab w.heap.size w) : Calls Tryd.prog 4 #[tx l] w fun e w' => e = .returned (.bool true) ∧ Kept w w' := by
  have HA : Hid (∀ W, Kept w W → _) := fun W k => anchor_any23 W (ht.upK W k)
  have HP : Hid (∀ W, _) := fun W => parse_cf l W hl
  have HR : Hid (∀ W, _) := fun W => rparse_cf l W hl
  generalize parseC l = r at *
  obtain ⟨⟨a, b, c, d, e⟩, f⟩ := r
  simp only [paV] at HP HR
  clear ht
  go_enter Tryd.func4, Tryd.ntmps4
  go_wp2_with fail
  refine Calls.mono (HA.out _ (Same.refl _ w)) ?_
  rintro r w1 ⟨rfl, k1⟩
  have K1 : Hid (Kept w w1) := k1
  clear k1
  go_wp2_with fail
  refine Calls.mono (HP.out _) ?_
  rintro r w2 ⟨rfl, k2⟩
  have K2 : Hid (Kept w w2) := K1.out.trans' k2
  clear k2 K1
  go_upto_region 4 with fail
  have K3 : Hid (Kept w (w2.alloc (.cells #[.int .i64 a, .int .i64 b, .int .i64 c, .int .i64 d, .int .i64 e] 23))) := K2.out.alloc _
  have B3 : Hid ((w2.alloc (.cells #[.int .i64 a, .int .i64 b, .int .i64 c, .int .i64 d, .int .i64 e] 23)).heap[w2.heap.size]? = some (.cells #[.int .i64 a, .int .i64 b, .int .i64 c, .int .i64 d, .int .i64 e] 23 (0, 0))) := heap_new _ _
  generalize w2.alloc (.cells #[.int .i64 a, .int .i64 b, .int .i64 c, .int .i64 d, .int .i64 e] 23) = W3 at K3 B3 ⊢
  generalize w2.heap.size = g3 at B3 ⊢
  go_wp2_with fail
  refine Calls.mono (HR.out _) ?_
  rintro r w4 ⟨rfl, k4⟩
  have K4 : Hid (Kept w w4) := K3.out.trans' k4
  have B4 : Hid (w4.heap[g3]? = some (.cells #[.int .i64 a, .int .i64 b, .int .i64 c, .int .i64 d, .int .i64 e] 23 (0, 0))) := (k4.block _ (lt_of_heap B3.out) (fun e => e)).trans B3.out
  clear k4 B3 K3
  have c0 : w4.cell? ⟨g3, 0, none⟩ = some (.int .i64 a) := cell_of B4.out 0
  have c1 : w4.cell? ⟨g3, 1, none⟩ = some (.int .i64 b) := cell_of B4.out 1
  have c2 : w4.cell? ⟨g3, 2, none⟩ = some (.int .i64 c) := cell_of B4.out 2
  have c3 : w4.cell? ⟨g3, 3, none⟩ = some (.int .i64 d) := cell_of B4.out 3
  have c4 : w4.cell? ⟨g3, 4, none⟩ = some (.int .i64 e) := cell_of B4.out 4
  have yl := lt_of_heap B4.out
  go_wp2_with fail
  go_ret
  exact ⟨rfl, K4.out.alloc _⟩
end Go.Proofs.YtolooejcgdknnaaDoor
