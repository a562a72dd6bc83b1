/- What is proved: config's Parse; condition: the text's length. -/
import Derived.Test.YtolooejcgdknnaaDoorCfS
namespace Go.Proofs.YtolooejcgdknnaaDoor
open Go.RowKit

def paV (r : Cg × Int) : Value := .tuple #[.agg #[.int .i64 r.1.a, .int .i64 r.1.b, .int .i64 r.1.c, .int .i64 r.1.d, .int .i64 r.1.e], .int .i64 r.2]
/-- Five stores into the function's own box, laid beforehand. -/
theorem kept5 {w W : World} (h : Kept w W) (v0 v1 v2 v3 v4 : Value) : Kept w (((((W.setCell ⟨w.heap.size, 0, none⟩ v0).setCell ⟨w.heap.size, 1, none⟩ v1).setCell ⟨w.heap.size, 2, none⟩ v2).setCell ⟨w.heap.size, 3, none⟩ v3).setCell ⟨w.heap.size, 4, none⟩ v4) :=
  ((((h.setCell _ (.inl (Nat.le_refl _)) _).setCell _ (.inl (Nat.le_refl _)) _).setCell _ (.inl (Nat.le_refl _)) _).setCell _ (.inl (Nat.le_refl _)) _).setCell _ (.inl (Nat.le_refl _)) _
set_option maxRecDepth 100000 in
set_option maxHeartbeats 3200000 in
theorem parse_cf (l : List UInt8) (w : World) (hl : l.length ≤ 281474976710656) : Calls Tryd.prog 13 #[tx l] w fun e w' => e = .returned (paV (parseC l)) ∧ Kept w w' := by
  have HR : Hid (∀ w, _) := fun w => readNumbers_any l w hl
  have HO : Hid (∀ a b c d e w, _) := configOf_any
  have HC : Hid (∀ x w, _) := check_cf
  obtain ⟨Z, eZ⟩ : ∃ Z, Z = parseC l := ⟨_, rfl⟩
  have HZ : Hid (Z = match rdC l with | none => (zC, 230) | some x => if chk x ≠ 0 then (zC, chk x) else (x, 0)) := eZ
  rw [← eZ]
  clear eZ
  generalize rdC l = o at *
  go_enter Tryd.func13, Tryd.ntmps13
  go_wp2_with fail
  refine Calls.mono (HR.out _) ?_
  rintro e w1 ⟨rfl, k1⟩
  have B1 : Hid (w1.heap[w.heap.size]? = some (.cells (cgA zC) 23 (0, 0))) := (k1.block _ (by simp) (fun e => e)).trans (heap_new _ _)
  have K1 : Hid (Kept w w1) := ((Same.refl _ w).alloc _).trans' k1
  clear k1
  cases o with
  | none =>
    have R : Hid (Z = (zC, 230)) := HZ.out
    simp only [rdV]
    go_upto_region 2 with fail
    have B2 : Hid ((w1.alloc (.cells #[.int .i64 0, .int .i64 0, .int .i64 0, .int .i64 0, .int .i64 0] 43)).heap[w.heap.size]? = some (.cells (cgA zC) 23 (0, 0))) := (heap_old _ _ (lt_of_heap B1.out)).trans B1.out
    have K2 : Hid (Kept w (w1.alloc (.cells #[.int .i64 0, .int .i64 0, .int .i64 0, .int .i64 0, .int .i64 0] 43))) := K1.out.alloc _
    generalize w1.alloc (.cells #[.int .i64 0, .int .i64 0, .int .i64 0, .int .i64 0, .int .i64 0] 43) = W at B2 K2 ⊢
    have d0 : W.cell? ⟨w.heap.size, 0, none⟩ = some (.int .i64 0) := cell_of B2.out 0
    have d1 : W.cell? ⟨w.heap.size, 1, none⟩ = some (.int .i64 0) := cell_of B2.out 1
    have d2 : W.cell? ⟨w.heap.size, 2, none⟩ = some (.int .i64 0) := cell_of B2.out 2
    have d3 : W.cell? ⟨w.heap.size, 3, none⟩ = some (.int .i64 0) := cell_of B2.out 3
    have d4 : W.cell? ⟨w.heap.size, 4, none⟩ = some (.int .i64 0) := cell_of B2.out 4
    have f0 := frozen_of B2.out 0
    have f1 := frozen_of B2.out 1
    have f2 := frozen_of B2.out 2
    have f3 := frozen_of B2.out 3
    have f4 := frozen_of B2.out 4
    have zl := lt_of_heap B2.out
    clear B1 K1
    go_wp2_with fail
    rw [R.out]
    refine bodyPost_ret (results_ctN rfl rfl (v := .agg #[.int .i64 0, .int .i64 0, .int .i64 0, .int .i64 0, .int .i64 0]) ?_) rfl ⟨rfl, kept5 K2.out _ _ _ _ _⟩
    go_simp
  | some x =>
    simp only at HZ
    obtain ⟨a, b, c, d, e⟩ := x
    simp only [rdV]
    go_wp2_with fail
    refine Calls.mono (HO.out _ _ _ _ _ _) ?_
    rintro r w2 ⟨rfl, k2⟩
    have B2 : Hid (w2.heap[w.heap.size]? = some (.cells (cgA zC) 23 (0, 0))) := (k2.block _ (by have := lt_of_heap B1.out; simp; omega) (fun e => e)).trans ((heap_old _ _ (lt_of_heap B1.out)).trans B1.out)
    have K2 : Hid (Kept w w2) := (K1.out.alloc _).trans' k2
    clear k2 B1 K1
    go_upto_region 5 with fail
    have G3 : Hid ((w2.alloc (.cells #[.int .i64 a, .int .i64 b, .int .i64 c, .int .i64 d, .int .i64 e] 23)).heap[w2.heap.size]? = some (.cells #[.int .i64 a, .int .i64 b, .int .i64 c, .int .i64 d, .int .i64 e] 23 (0, 0))) := heap_new _ _
    have B3 : Hid ((w2.alloc (.cells #[.int .i64 a, .int .i64 b, .int .i64 c, .int .i64 d, .int .i64 e] 23)).heap[w.heap.size]? = some (.cells (cgA zC) 23 (0, 0))) := (heap_old _ _ (lt_of_heap B2.out)).trans B2.out
    have K3 : Hid (Kept w (w2.alloc (.cells #[.int .i64 a, .int .i64 b, .int .i64 c, .int .i64 d, .int .i64 e] 23))) := K2.out.alloc _
    have LT : Hid (w.heap.size < w2.heap.size) := lt_of_heap B2.out
    generalize w2.alloc (.cells #[.int .i64 a, .int .i64 b, .int .i64 c, .int .i64 d, .int .i64 e] 23) = W3 at G3 B3 K3 ⊢
    generalize w2.heap.size = g at G3 LT ⊢
    clear B2 K2
    have c0 : W3.cell? ⟨g, 0, none⟩ = some (.int .i64 a) := cell_of G3.out 0
    have c1 : W3.cell? ⟨g, 1, none⟩ = some (.int .i64 b) := cell_of G3.out 1
    have c2 : W3.cell? ⟨g, 2, none⟩ = some (.int .i64 c) := cell_of G3.out 2
    have c3 : W3.cell? ⟨g, 3, none⟩ = some (.int .i64 d) := cell_of G3.out 3
    have c4 : W3.cell? ⟨g, 4, none⟩ = some (.int .i64 e) := cell_of G3.out 4
    have yl := lt_of_heap G3.out
    go_wp2_with fail
    refine Calls.mono (HC.out ⟨a, b, c, d, e⟩ _) ?_
    rintro r w4 ⟨rfl, k4⟩
    have K4 : Hid (Kept w w4) := K3.out.trans' k4
    have B4 : Hid (w4.heap[w.heap.size]? = some (.cells (cgA zC) 23 (0, 0))) := (k4.block _ (lt_of_heap B3.out) (fun e => e)).trans B3.out
    have G4 : Hid (w4.heap[g]? = some (.cells #[.int .i64 a, .int .i64 b, .int .i64 c, .int .i64 d, .int .i64 e] 23 (0, 0))) := (k4.block _ (lt_of_heap G3.out) (fun e => e)).trans G3.out
    clear k4 B3 G3 K3 c0 c1 c2 c3 c4 yl
    have d0 : w4.cell? ⟨w.heap.size, 0, none⟩ = some (.int .i64 0) := cell_of B4.out 0
    have d1 : w4.cell? ⟨w.heap.size, 1, none⟩ = some (.int .i64 0) := cell_of B4.out 1
    have d2 : w4.cell? ⟨w.heap.size, 2, none⟩ = some (.int .i64 0) := cell_of B4.out 2
    have d3 : w4.cell? ⟨w.heap.size, 3, none⟩ = some (.int .i64 0) := cell_of B4.out 3
    have d4 : w4.cell? ⟨w.heap.size, 4, none⟩ = some (.int .i64 0) := cell_of B4.out 4
    have f0 := frozen_of B4.out 0
    have f1 := frozen_of B4.out 1
    have f2 := frozen_of B4.out 2
    have f3 := frozen_of B4.out 3
    have f4 := frozen_of B4.out 4
    have zl := lt_of_heap B4.out
    have c0 : w4.cell? ⟨g, 0, none⟩ = some (.int .i64 a) := cell_of G4.out 0
    have c1 : w4.cell? ⟨g, 1, none⟩ = some (.int .i64 b) := cell_of G4.out 1
    have c2 : w4.cell? ⟨g, 2, none⟩ = some (.int .i64 c) := cell_of G4.out 2
    have c3 : w4.cell? ⟨g, 3, none⟩ = some (.int .i64 d) := cell_of G4.out 3
    have c4 : w4.cell? ⟨g, 4, none⟩ = some (.int .i64 e) := cell_of G4.out 4
    have yl := lt_of_heap G4.out
    have gl := LT.out
    by_cases hz : chk ⟨a, b, c, d, e⟩ = 0
    · have R : Hid (Z = (⟨a, b, c, d, e⟩, 0)) := by
        show _ = _
        rw [HZ.out, hz]
        rfl
      rw [hz]
      clear hz HZ
      go_wp2_with fail
      rw [R.out]
      refine bodyPost_ret (results_ctN rfl rfl (v := .agg #[.int .i64 a, .int .i64 b, .int .i64 c, .int .i64 d, .int .i64 e]) ?_) rfl ⟨rfl, kept5 K4.out _ _ _ _ _⟩
      go_simp
    · have R : Hid (Z = (zC, chk ⟨a, b, c, d, e⟩)) := by
        show _ = _
        rw [HZ.out, if_pos hz]
      have hq : (chk ⟨a, b, c, d, e⟩ != 0) = true := by simpa using hz
      clear HZ
      generalize chk ⟨a, b, c, d, e⟩ = q at *
      clear hz
      go_wp2_with fail
      rw [R.out]
      refine bodyPost_ret (results_ctN rfl rfl (v := .agg #[.int .i64 0, .int .i64 0, .int .i64 0, .int .i64 0, .int .i64 0]) ?_) rfl ⟨rfl, kept5 K4.out _ _ _ _ _⟩
      go_simp
end Go.Proofs.YtolooejcgdknnaaDoor
