/- What is proved: ways of the law ViolBounds; no condition. -/
import Derived.Test.YticahglmlfflbaaVBd
namespace Go.Proofs.Yticahglmlfflbaa
open Go.RowKit

set_option maxRecDepth 100000 in
set_option maxHeartbeats 6400000 in
theorem bnd0_false (w : World) : Calls Try.prog 7 #[.int .i64 0, .bool false] w fun e w' => e = .returned (.bool true) ∧ Kept w w' := by
  have HA : Hid _ := anchor18 w
  have HN : Hid (∀ W, _) := fun W => new18_ok 3 (by decide) W
  go_enter Try.func7, Try.ntmps7
  go_wp2_with fail
  refine Calls.mono HA.out ?_
  rintro r w1 ⟨rfl, k1⟩
  have K1 : Hid (Kept w w1) := k1
  clear k1 HA
  go_wp2_with fail
  generalize hwb : w1.alloc _ = wb
  have HB : Hid _ := box_of hwb
  have KB : Hid (Kept w wb) := kept_by hwb K1.out
  generalize w1.heap.size = gb at HB ⊢
  clear hwb K1
  refine Calls.mono (HN.out _) ?_
  rintro r w2 ⟨rfl, rfl⟩
  have HT1 : Hid (TpN wb (wb.alloc (tpO 3 0 (.slice none 0 0))) wb.heap.size 3 []) := TpN.new (Same.refl _ wb) (by decide)
  have hgb := lt_of_heap HB.out
  have hcl : ∀ c, (wb.alloc (tpO 3 0 (.slice none 0 0))).cell? ⟨gb, c, none⟩ = _ := fun c => (((Same.refl (fun _ => False) wb).alloc _).cell (p := ⟨gb, c, none⟩) hgb (fun e => e)).trans (cell_of HB.out c)
  have x0 := hcl 0
  have x1 := hcl 1
  have x2 := hcl 2
  have x3 := hcl 3
  have x4 := hcl 4
  have x5 := hcl 5
  have x6 := hcl 6
  have x7 := hcl 7
  have x8 := hcl 8
  have x9 := hcl 9
  have x10 := hcl 10
  have x11 := hcl 11
  simp at x0 x1 x2 x3 x4 x5 x6 x7 x8 x9 x10 x11
  clear hcl HN
  generalize wb.alloc (tpO 3 0 (.slice none 0 0)) = W2 at *
  generalize wb.heap.size = tb at HT1 ⊢
  go_wp2_with fail
  refine Calls.mono (put_yes wb _ _ _ _ _ _ _ _ _ _ _ _ _ _ (by decide) HT1.out) ?_
  rintro r w3 ⟨rfl, x, t3⟩
  have HT3 : Hid (TpN wb w3 tb 3 [x]) := t3
  clear x0 x1 x2 x3 x4 x5 x6 x7 x8 x9 x10 x11
  have hcl : ∀ c, w3.cell? ⟨gb, c, none⟩ = _ := fun c => (t3.kept.cell (p := ⟨gb, c, none⟩) hgb (fun e => e)).trans (cell_of HB.out c)
  have x0 := hcl 0
  have x1 := hcl 1
  have x2 := hcl 2
  have x3 := hcl 3
  have x4 := hcl 4
  have x5 := hcl 5
  have x6 := hcl 6
  have x7 := hcl 7
  have x8 := hcl 8
  have x9 := hcl 9
  have x10 := hcl 10
  have x11 := hcl 11
  simp at x0 x1 x2 x3 x4 x5 x6 x7 x8 x9 x10 x11
  clear hcl t3 HT1
  go_wp2_with fail
  refine Calls.mono (val_b true _ _ _ _ _ _ _ _ _ _ _ _ _ (by decide)) ?_
  rintro r w4 ⟨rfl, o4, rfl⟩
  have HT4 : Hid (TpN wb (w3.alloc o4) tb 3 [x]) := HT3.out.on ((Same.refl _ w3).alloc _)
  clear x0 x1 x2 x3 x4 x5 x6 x7 x8 x9 x10 x11
  generalize w3.alloc o4 = W4 at HT4 ⊢
  go_wp2_with fail
  refine Calls.mono (list_one HT4.out) ?_
  rintro r w5 ⟨a5, c5, rfl, t5⟩
  have HT5 : Hid (TpN wb w5 tb 3 [x]) := t5
  have HTT : Hid _ := t5.total
  clear t5 HT4
  go_wp2_with fail
  refine Calls.mono HTT.out ?_
  rintro r w6 ⟨rfl, rfl⟩
  go_wp2_with fail
  go_ret
  exact ⟨rfl, KB.out.trans' HT5.out.kept⟩
set_option maxRecDepth 100000 in
set_option maxHeartbeats 6400000 in
theorem bnd0_true (w : World) : Calls Try.prog 7 #[.int .i64 0, .bool true] w fun e w' => e = .returned (.bool true) ∧ Kept w w' := by
  have HA : Hid _ := anchor18 w
  have HN : Hid (∀ W, _) := fun W => new18_ok 3 (by decide) W
  go_enter Try.func7, Try.ntmps7
  go_wp2_with fail
  refine Calls.mono HA.out ?_
  rintro r w1 ⟨rfl, k1⟩
  have K1 : Hid (Kept w w1) := k1
  clear k1 HA
  go_wp2_with fail
  generalize hwb : w1.alloc _ = wb
  have HB : Hid _ := box_of hwb
  have KB : Hid (Kept w wb) := kept_by hwb K1.out
  generalize w1.heap.size = gb at HB ⊢
  clear hwb K1
  refine Calls.mono (HN.out _) ?_
  rintro r w2 ⟨rfl, rfl⟩
  have HT1 : Hid (TpN wb (wb.alloc (tpO 3 0 (.slice none 0 0))) wb.heap.size 3 []) := TpN.new (Same.refl _ wb) (by decide)
  have hgb := lt_of_heap HB.out
  have hcl : ∀ c, (wb.alloc (tpO 3 0 (.slice none 0 0))).cell? ⟨gb, c, none⟩ = _ := fun c => (((Same.refl (fun _ => False) wb).alloc _).cell (p := ⟨gb, c, none⟩) hgb (fun e => e)).trans (cell_of HB.out c)
  have x0 := hcl 0
  have x1 := hcl 1
  have x2 := hcl 2
  have x3 := hcl 3
  have x4 := hcl 4
  have x5 := hcl 5
  have x6 := hcl 6
  have x7 := hcl 7
  have x8 := hcl 8
  have x9 := hcl 9
  have x10 := hcl 10
  have x11 := hcl 11
  simp at x0 x1 x2 x3 x4 x5 x6 x7 x8 x9 x10 x11
  clear hcl HN
  generalize wb.alloc (tpO 3 0 (.slice none 0 0)) = W2 at *
  generalize wb.heap.size = tb at HT1 ⊢
  go_wp2_with fail
  refine Calls.mono (put_not wb _ _ _ _ _ _ _ _ _ _ _ _ _ _ (by decide) HT1.out) ?_
  rintro r w3 ⟨rfl, t3⟩
  have HT3 : Hid (TpN wb w3 tb 3 []) := t3
  clear x0 x1 x2 x3 x4 x5 x6 x7 x8 x9 x10 x11
  have hcl : ∀ c, w3.cell? ⟨gb, c, none⟩ = _ := fun c => (t3.kept.cell (p := ⟨gb, c, none⟩) hgb (fun e => e)).trans (cell_of HB.out c)
  have x0 := hcl 0
  have x1 := hcl 1
  have x2 := hcl 2
  have x3 := hcl 3
  have x4 := hcl 4
  have x5 := hcl 5
  have x6 := hcl 6
  have x7 := hcl 7
  have x8 := hcl 8
  have x9 := hcl 9
  have x10 := hcl 10
  have x11 := hcl 11
  simp at x0 x1 x2 x3 x4 x5 x6 x7 x8 x9 x10 x11
  clear hcl t3 HT1
  go_wp2_with fail
  refine Calls.mono (val_b false _ _ _ _ _ _ _ _ _ _ _ _ _ (by decide)) ?_
  rintro r w4 ⟨rfl, o4, rfl⟩
  have HT4 : Hid (TpN wb (w3.alloc o4) tb 3 []) := HT3.out.on ((Same.refl _ w3).alloc _)
  clear x0 x1 x2 x3 x4 x5 x6 x7 x8 x9 x10 x11
  generalize w3.alloc o4 = W4 at HT4 ⊢
  go_wp2_with fail
  refine Calls.mono (list_none HT4.out) ?_
  rintro r w5 ⟨a5, c5, rfl, t5⟩
  have HT5 : Hid (TpN wb w5 tb 3 []) := t5
  have HTT : Hid _ := t5.total
  clear t5 HT4
  go_wp2_with fail
  refine Calls.mono HTT.out ?_
  rintro r w6 ⟨rfl, rfl⟩
  go_wp2_with fail
  go_ret
  exact ⟨rfl, KB.out.trans' HT5.out.kept⟩
set_option maxRecDepth 100000 in
set_option maxHeartbeats 6400000 in
theorem bnd1_false (w : World) : Calls Try.prog 7 #[.int .i64 1, .bool false] w fun e w' => e = .returned (.bool true) ∧ Kept w w' := by
  have HA : Hid _ := anchor18 w
  have HN : Hid (∀ W, _) := fun W => new18_ok 3 (by decide) W
  go_enter Try.func7, Try.ntmps7
  go_wp2_with fail
  refine Calls.mono HA.out ?_
  rintro r w1 ⟨rfl, k1⟩
  have K1 : Hid (Kept w w1) := k1
  clear k1 HA
  go_wp2_with fail
  generalize hwb : w1.alloc _ = wb
  have HB : Hid _ := box_of hwb
  have KB : Hid (Kept w wb) := kept_by hwb K1.out
  generalize w1.heap.size = gb at HB ⊢
  clear hwb K1
  refine Calls.mono (HN.out _) ?_
  rintro r w2 ⟨rfl, rfl⟩
  have HT1 : Hid (TpN wb (wb.alloc (tpO 3 0 (.slice none 0 0))) wb.heap.size 3 []) := TpN.new (Same.refl _ wb) (by decide)
  have hgb := lt_of_heap HB.out
  have hcl : ∀ c, (wb.alloc (tpO 3 0 (.slice none 0 0))).cell? ⟨gb, c, none⟩ = _ := fun c => (((Same.refl (fun _ => False) wb).alloc _).cell (p := ⟨gb, c, none⟩) hgb (fun e => e)).trans (cell_of HB.out c)
  have x0 := hcl 0
  have x1 := hcl 1
  have x2 := hcl 2
  have x3 := hcl 3
  have x4 := hcl 4
  have x5 := hcl 5
  have x6 := hcl 6
  have x7 := hcl 7
  have x8 := hcl 8
  have x9 := hcl 9
  have x10 := hcl 10
  have x11 := hcl 11
  simp at x0 x1 x2 x3 x4 x5 x6 x7 x8 x9 x10 x11
  clear hcl HN
  generalize wb.alloc (tpO 3 0 (.slice none 0 0)) = W2 at *
  generalize wb.heap.size = tb at HT1 ⊢
  go_wp2_with fail
  refine Calls.mono (put_yes wb _ _ _ _ _ _ _ _ _ _ _ _ _ _ (by decide) HT1.out) ?_
  rintro r w3 ⟨rfl, x, t3⟩
  have HT3 : Hid (TpN wb w3 tb 3 [x]) := t3
  clear x0 x1 x2 x3 x4 x5 x6 x7 x8 x9 x10 x11
  have hcl : ∀ c, w3.cell? ⟨gb, c, none⟩ = _ := fun c => (t3.kept.cell (p := ⟨gb, c, none⟩) hgb (fun e => e)).trans (cell_of HB.out c)
  have x0 := hcl 0
  have x1 := hcl 1
  have x2 := hcl 2
  have x3 := hcl 3
  have x4 := hcl 4
  have x5 := hcl 5
  have x6 := hcl 6
  have x7 := hcl 7
  have x8 := hcl 8
  have x9 := hcl 9
  have x10 := hcl 10
  have x11 := hcl 11
  simp at x0 x1 x2 x3 x4 x5 x6 x7 x8 x9 x10 x11
  clear hcl t3 HT1
  go_wp2_with fail
  refine Calls.mono (val_b true _ _ _ _ _ _ _ _ _ _ _ _ _ (by decide)) ?_
  rintro r w4 ⟨rfl, o4, rfl⟩
  have HT4 : Hid (TpN wb (w3.alloc o4) tb 3 [x]) := HT3.out.on ((Same.refl _ w3).alloc _)
  clear x0 x1 x2 x3 x4 x5 x6 x7 x8 x9 x10 x11
  generalize w3.alloc o4 = W4 at HT4 ⊢
  go_wp2_with fail
  refine Calls.mono (list_one HT4.out) ?_
  rintro r w5 ⟨a5, c5, rfl, t5⟩
  have HT5 : Hid (TpN wb w5 tb 3 [x]) := t5
  have HTT : Hid _ := t5.total
  clear t5 HT4
  go_wp2_with fail
  refine Calls.mono HTT.out ?_
  rintro r w6 ⟨rfl, rfl⟩
  go_wp2_with fail
  go_ret
  exact ⟨rfl, KB.out.trans' HT5.out.kept⟩
set_option maxRecDepth 100000 in
set_option maxHeartbeats 6400000 in
theorem bnd1_true (w : World) : Calls Try.prog 7 #[.int .i64 1, .bool true] w fun e w' => e = .returned (.bool true) ∧ Kept w w' := by
  have HA : Hid _ := anchor18 w
  have HN : Hid (∀ W, _) := fun W => new18_ok 3 (by decide) W
  go_enter Try.func7, Try.ntmps7
  go_wp2_with fail
  refine Calls.mono HA.out ?_
  rintro r w1 ⟨rfl, k1⟩
  have K1 : Hid (Kept w w1) := k1
  clear k1 HA
  go_wp2_with fail
  generalize hwb : w1.alloc _ = wb
  have HB : Hid _ := box_of hwb
  have KB : Hid (Kept w wb) := kept_by hwb K1.out
  generalize w1.heap.size = gb at HB ⊢
  clear hwb K1
  refine Calls.mono (HN.out _) ?_
  rintro r w2 ⟨rfl, rfl⟩
  have HT1 : Hid (TpN wb (wb.alloc (tpO 3 0 (.slice none 0 0))) wb.heap.size 3 []) := TpN.new (Same.refl _ wb) (by decide)
  have hgb := lt_of_heap HB.out
  have hcl : ∀ c, (wb.alloc (tpO 3 0 (.slice none 0 0))).cell? ⟨gb, c, none⟩ = _ := fun c => (((Same.refl (fun _ => False) wb).alloc _).cell (p := ⟨gb, c, none⟩) hgb (fun e => e)).trans (cell_of HB.out c)
  have x0 := hcl 0
  have x1 := hcl 1
  have x2 := hcl 2
  have x3 := hcl 3
  have x4 := hcl 4
  have x5 := hcl 5
  have x6 := hcl 6
  have x7 := hcl 7
  have x8 := hcl 8
  have x9 := hcl 9
  have x10 := hcl 10
  have x11 := hcl 11
  simp at x0 x1 x2 x3 x4 x5 x6 x7 x8 x9 x10 x11
  clear hcl HN
  generalize wb.alloc (tpO 3 0 (.slice none 0 0)) = W2 at *
  generalize wb.heap.size = tb at HT1 ⊢
  go_wp2_with fail
  refine Calls.mono (put_not wb _ _ _ _ _ _ _ _ _ _ _ _ _ _ (by decide) HT1.out) ?_
  rintro r w3 ⟨rfl, t3⟩
  have HT3 : Hid (TpN wb w3 tb 3 []) := t3
  clear x0 x1 x2 x3 x4 x5 x6 x7 x8 x9 x10 x11
  have hcl : ∀ c, w3.cell? ⟨gb, c, none⟩ = _ := fun c => (t3.kept.cell (p := ⟨gb, c, none⟩) hgb (fun e => e)).trans (cell_of HB.out c)
  have x0 := hcl 0
  have x1 := hcl 1
  have x2 := hcl 2
  have x3 := hcl 3
  have x4 := hcl 4
  have x5 := hcl 5
  have x6 := hcl 6
  have x7 := hcl 7
  have x8 := hcl 8
  have x9 := hcl 9
  have x10 := hcl 10
  have x11 := hcl 11
  simp at x0 x1 x2 x3 x4 x5 x6 x7 x8 x9 x10 x11
  clear hcl t3 HT1
  go_wp2_with fail
  refine Calls.mono (val_b false _ _ _ _ _ _ _ _ _ _ _ _ _ (by decide)) ?_
  rintro r w4 ⟨rfl, o4, rfl⟩
  have HT4 : Hid (TpN wb (w3.alloc o4) tb 3 []) := HT3.out.on ((Same.refl _ w3).alloc _)
  clear x0 x1 x2 x3 x4 x5 x6 x7 x8 x9 x10 x11
  generalize w3.alloc o4 = W4 at HT4 ⊢
  go_wp2_with fail
  refine Calls.mono (list_none HT4.out) ?_
  rintro r w5 ⟨a5, c5, rfl, t5⟩
  have HT5 : Hid (TpN wb w5 tb 3 []) := t5
  have HTT : Hid _ := t5.total
  clear t5 HT4
  go_wp2_with fail
  refine Calls.mono HTT.out ?_
  rintro r w6 ⟨rfl, rfl⟩
  go_wp2_with fail
  go_ret
  exact ⟨rfl, KB.out.trans' HT5.out.kept⟩
set_option maxRecDepth 100000 in
set_option maxHeartbeats 6400000 in
theorem bnd2_false (w : World) : Calls Try.prog 7 #[.int .i64 2, .bool false] w fun e w' => e = .returned (.bool true) ∧ Kept w w' := by
  have HA : Hid _ := anchor18 w
  have HN : Hid (∀ W, _) := fun W => new18_ok 3 (by decide) W
  go_enter Try.func7, Try.ntmps7
  go_wp2_with fail
  refine Calls.mono HA.out ?_
  rintro r w1 ⟨rfl, k1⟩
  have K1 : Hid (Kept w w1) := k1
  clear k1 HA
  go_wp2_with fail
  generalize hwb : w1.alloc _ = wb
  have HB : Hid _ := box_of hwb
  have KB : Hid (Kept w wb) := kept_by hwb K1.out
  generalize w1.heap.size = gb at HB ⊢
  clear hwb K1
  refine Calls.mono (HN.out _) ?_
  rintro r w2 ⟨rfl, rfl⟩
  have HT1 : Hid (TpN wb (wb.alloc (tpO 3 0 (.slice none 0 0))) wb.heap.size 3 []) := TpN.new (Same.refl _ wb) (by decide)
  have hgb := lt_of_heap HB.out
  have hcl : ∀ c, (wb.alloc (tpO 3 0 (.slice none 0 0))).cell? ⟨gb, c, none⟩ = _ := fun c => (((Same.refl (fun _ => False) wb).alloc _).cell (p := ⟨gb, c, none⟩) hgb (fun e => e)).trans (cell_of HB.out c)
  have x0 := hcl 0
  have x1 := hcl 1
  have x2 := hcl 2
  have x3 := hcl 3
  have x4 := hcl 4
  have x5 := hcl 5
  have x6 := hcl 6
  have x7 := hcl 7
  have x8 := hcl 8
  have x9 := hcl 9
  have x10 := hcl 10
  have x11 := hcl 11
  simp at x0 x1 x2 x3 x4 x5 x6 x7 x8 x9 x10 x11
  clear hcl HN
  generalize wb.alloc (tpO 3 0 (.slice none 0 0)) = W2 at *
  generalize wb.heap.size = tb at HT1 ⊢
  go_wp2_with fail
  refine Calls.mono (put_yes wb _ _ _ _ _ _ _ _ _ _ _ _ _ _ (by decide) HT1.out) ?_
  rintro r w3 ⟨rfl, x, t3⟩
  have HT3 : Hid (TpN wb w3 tb 3 [x]) := t3
  clear x0 x1 x2 x3 x4 x5 x6 x7 x8 x9 x10 x11
  have hcl : ∀ c, w3.cell? ⟨gb, c, none⟩ = _ := fun c => (t3.kept.cell (p := ⟨gb, c, none⟩) hgb (fun e => e)).trans (cell_of HB.out c)
  have x0 := hcl 0
  have x1 := hcl 1
  have x2 := hcl 2
  have x3 := hcl 3
  have x4 := hcl 4
  have x5 := hcl 5
  have x6 := hcl 6
  have x7 := hcl 7
  have x8 := hcl 8
  have x9 := hcl 9
  have x10 := hcl 10
  have x11 := hcl 11
  simp at x0 x1 x2 x3 x4 x5 x6 x7 x8 x9 x10 x11
  clear hcl t3 HT1
  go_wp2_with fail
  refine Calls.mono (val_b true _ _ _ _ _ _ _ _ _ _ _ _ _ (by decide)) ?_
  rintro r w4 ⟨rfl, o4, rfl⟩
  have HT4 : Hid (TpN wb (w3.alloc o4) tb 3 [x]) := HT3.out.on ((Same.refl _ w3).alloc _)
  clear x0 x1 x2 x3 x4 x5 x6 x7 x8 x9 x10 x11
  generalize w3.alloc o4 = W4 at HT4 ⊢
  go_wp2_with fail
  refine Calls.mono (list_one HT4.out) ?_
  rintro r w5 ⟨a5, c5, rfl, t5⟩
  have HT5 : Hid (TpN wb w5 tb 3 [x]) := t5
  have HTT : Hid _ := t5.total
  clear t5 HT4
  go_wp2_with fail
  refine Calls.mono HTT.out ?_
  rintro r w6 ⟨rfl, rfl⟩
  go_wp2_with fail
  go_ret
  exact ⟨rfl, KB.out.trans' HT5.out.kept⟩
set_option maxRecDepth 100000 in
set_option maxHeartbeats 6400000 in
theorem bnd2_true (w : World) : Calls Try.prog 7 #[.int .i64 2, .bool true] w fun e w' => e = .returned (.bool true) ∧ Kept w w' := by
  have HA : Hid _ := anchor18 w
  have HN : Hid (∀ W, _) := fun W => new18_ok 3 (by decide) W
  go_enter Try.func7, Try.ntmps7
  go_wp2_with fail
  refine Calls.mono HA.out ?_
  rintro r w1 ⟨rfl, k1⟩
  have K1 : Hid (Kept w w1) := k1
  clear k1 HA
  go_wp2_with fail
  generalize hwb : w1.alloc _ = wb
  have HB : Hid _ := box_of hwb
  have KB : Hid (Kept w wb) := kept_by hwb K1.out
  generalize w1.heap.size = gb at HB ⊢
  clear hwb K1
  refine Calls.mono (HN.out _) ?_
  rintro r w2 ⟨rfl, rfl⟩
  have HT1 : Hid (TpN wb (wb.alloc (tpO 3 0 (.slice none 0 0))) wb.heap.size 3 []) := TpN.new (Same.refl _ wb) (by decide)
  have hgb := lt_of_heap HB.out
  have hcl : ∀ c, (wb.alloc (tpO 3 0 (.slice none 0 0))).cell? ⟨gb, c, none⟩ = _ := fun c => (((Same.refl (fun _ => False) wb).alloc _).cell (p := ⟨gb, c, none⟩) hgb (fun e => e)).trans (cell_of HB.out c)
  have x0 := hcl 0
  have x1 := hcl 1
  have x2 := hcl 2
  have x3 := hcl 3
  have x4 := hcl 4
  have x5 := hcl 5
  have x6 := hcl 6
  have x7 := hcl 7
  have x8 := hcl 8
  have x9 := hcl 9
  have x10 := hcl 10
  have x11 := hcl 11
  simp at x0 x1 x2 x3 x4 x5 x6 x7 x8 x9 x10 x11
  clear hcl HN
  generalize wb.alloc (tpO 3 0 (.slice none 0 0)) = W2 at *
  generalize wb.heap.size = tb at HT1 ⊢
  go_wp2_with fail
  refine Calls.mono (put_not wb _ _ _ _ _ _ _ _ _ _ _ _ _ _ (by decide) HT1.out) ?_
  rintro r w3 ⟨rfl, t3⟩
  have HT3 : Hid (TpN wb w3 tb 3 []) := t3
  clear x0 x1 x2 x3 x4 x5 x6 x7 x8 x9 x10 x11
  have hcl : ∀ c, w3.cell? ⟨gb, c, none⟩ = _ := fun c => (t3.kept.cell (p := ⟨gb, c, none⟩) hgb (fun e => e)).trans (cell_of HB.out c)
  have x0 := hcl 0
  have x1 := hcl 1
  have x2 := hcl 2
  have x3 := hcl 3
  have x4 := hcl 4
  have x5 := hcl 5
  have x6 := hcl 6
  have x7 := hcl 7
  have x8 := hcl 8
  have x9 := hcl 9
  have x10 := hcl 10
  have x11 := hcl 11
  simp at x0 x1 x2 x3 x4 x5 x6 x7 x8 x9 x10 x11
  clear hcl t3 HT1
  go_wp2_with fail
  refine Calls.mono (val_b false _ _ _ _ _ _ _ _ _ _ _ _ _ (by decide)) ?_
  rintro r w4 ⟨rfl, o4, rfl⟩
  have HT4 : Hid (TpN wb (w3.alloc o4) tb 3 []) := HT3.out.on ((Same.refl _ w3).alloc _)
  clear x0 x1 x2 x3 x4 x5 x6 x7 x8 x9 x10 x11
  generalize w3.alloc o4 = W4 at HT4 ⊢
  go_wp2_with fail
  refine Calls.mono (list_none HT4.out) ?_
  rintro r w5 ⟨a5, c5, rfl, t5⟩
  have HT5 : Hid (TpN wb w5 tb 3 []) := t5
  have HTT : Hid _ := t5.total
  clear t5 HT4
  go_wp2_with fail
  refine Calls.mono HTT.out ?_
  rintro r w6 ⟨rfl, rfl⟩
  go_wp2_with fail
  go_ret
  exact ⟨rfl, KB.out.trans' HT5.out.kept⟩
end Go.Proofs.Yticahglmlfflbaa
