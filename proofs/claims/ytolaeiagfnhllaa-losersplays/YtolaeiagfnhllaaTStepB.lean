/- What is proved: the other kinds of steps of a script: both trees answer the same, and stand alike behind it; both were made by their New. -/
import Derived.Test.YtolaeiagfnhllaaTStep
namespace Go.Proofs.Ytolaeiagfnhllaa
open Go.RowKit

set_option maxRecDepth 100000 in
set_option maxHeartbeats 1000000 in
theorem step_two {w W : World} {b gs gn rb rs rr : Nat} {order : Int} {S : List Sr} (h : Bo w W b gs gn rb rs rr order S S) (a : Int) (r : RwM) :
    Calls Try.prog 12 #[.pointer (some ⟨b, 0, none⟩), .pointer (some ⟨rb, 0, none⟩), opV 2 a r] W (StP w b gs gn rb rs rr order) := by
  have BX0 := heap_new W (opO 2 a r)
  have HSA : Hid (∀ w1, Same (Ft b gs gn) (W.alloc (opO 2 a r)) w1 → w1.heap[W.heap.size]? = some (opO 2 a r)) := fun w1 k => (k.block _ (lt_of_heap BX0) (fun e => by have := h.lt _ (.inl e); omega)).trans BX0
  have HF : Hid _ := (h.on ((Same.refl _ W).alloc (opO 2 a r))).fin (Same.refl _ _) a
  clear h BX0
  obtain ⟨kind, time, seq, index, frm, til, body⟩ := r
  unfold opV opO at *
  simp only at *
  go_enter Try.func12, Try.ntmps12
  go_wp2_with fail
  refine Calls.mono HF.out ?_
  rintro e w1 ⟨rfl, b1, k1⟩
  have bx1 := HSA.out _ k1
  obtain ⟨y0, y1, y2, y3, y4, y5, y6, y7, y8⟩ := op_obj bx1
  have hl1 := lt_of_heap bx1
  have HRF : Hid _ := b1.rfin (Same.refl _ _) a
  clear b1 k1 bx1 HF HSA
  go_wp2_with fail
  refine Calls.mono HRF.out ?_
  rintro e w2 ⟨rfl, b2, -⟩
  have R2 : Hid _ := b2
  clear b2 HRF
  go_wp2_with fail
  go_ret
  exact ⟨by first | exact rfl | (congr 1; simp), _, R2.out⟩
set_option maxRecDepth 100000 in
set_option maxHeartbeats 1000000 in
theorem step_three {w W : World} {b gs gn rb rs rr : Nat} {order : Int} {S : List Sr} (h : Bo w W b gs gn rb rs rr order S S) (a : Int) (r : RwM) :
    Calls Try.prog 12 #[.pointer (some ⟨b, 0, none⟩), .pointer (some ⟨rb, 0, none⟩), opV 3 a r] W (StP w b gs gn rb rs rr order) := by
  have HF : Hid _ := (h.on ((Same.refl _ W).alloc (opO 3 a r))).win _ (Same.refl _ _)
  have HLT : Hid _ := h.lt
  clear h
  obtain ⟨kind, time, seq, index, frm, til, body⟩ := r
  unfold opV opO at *
  simp only at *
  go_enter Try.func12, Try.ntmps12
  go_wp2_with fail
  refine Calls.mono HF.out ?_
  rintro e w1 ⟨x, r1, c, S', rfl, wr1, b1, k1⟩
  have HP : Hid (∀ W0 W, Kept W0 W → Calls Try.prog 13 #[rowV r1] W fun e w' => e = .returned (rowV r1) ∧ Kept W0 w') := fun W0 W k => Calls.mono (plain_any r1 W) fun _ _ h => ⟨h.1, k.trans' h.2⟩
  have HQ := eql_rrow11 r1
  have HRW : Hid _ := (b1.on ((Same.refl _ w1).alloc (.cells #[.int .i64 r1.kind, .int .i64 r1.time, .int .i64 r1.seq, .int .i64 r1.index, .int .i64 r1.frm, .int .i64 r1.til, .string r1.body] 32))).rwin (Same.refl _ _) wr1
  have BX1 := heap_new w1 (.cells #[.int .i64 r1.kind, .int .i64 r1.time, .int .i64 r1.seq, .int .i64 r1.index, .int .i64 r1.frm, .int .i64 r1.til, .string r1.body] 32)
  have HSA : Hid (∀ w2, Same (RF rb rs rr) (w1.alloc (.cells #[.int .i64 r1.kind, .int .i64 r1.time, .int .i64 r1.seq, .int .i64 r1.index, .int .i64 r1.frm, .int .i64 r1.til, .string r1.body] 32)) w2 → w2.heap[w1.heap.size]? = some (.cells #[.int .i64 r1.kind, .int .i64 r1.time, .int .i64 r1.seq, .int .i64 r1.index, .int .i64 r1.frm, .int .i64 r1.til, .string r1.body] 32 (0, 0))) := fun w2 k => (k.block _ (lt_of_heap BX1) (fun e => by have := b1.lt _ (.inr e); omega)).trans BX1
  obtain ⟨kind1, time1, seq1, index1, frm1, til1, body1⟩ := r1
  unfold rowV at *
  simp only at *
  clear b1 k1 wr1 HF BX1
  go_wp2_with fail
  refine Calls.mono HRW.out ?_
  rintro e w2 ⟨rfl, b2, k2⟩
  have bx2 := HSA.out _ k2
  have k3 : Kept w2 (w2.alloc (.cells #[.int .i64 kind1, .int .i64 time1, .int .i64 seq1, .int .i64 index1, .int .i64 frm1, .int .i64 til1, .string body1] 41)) := (Same.refl _ _).alloc _
  have bx3 := (k3.block _ (lt_of_heap bx2) (fun e => e)).trans bx2
  have by3 := heap_new w2 (.cells #[.int .i64 kind1, .int .i64 time1, .int .i64 seq1, .int .i64 index1, .int .i64 frm1, .int .i64 til1, .string body1] 41)
  have hl1 := lt_of_heap bx3
  have hl2 := lt_of_heap by3
  obtain ⟨⟨y0, y1, y2, y3, y4, y5, y6⟩, -⟩ := row_obj bx3
  obtain ⟨⟨z0, z1, z2, z3, z4, z5, z6⟩, -⟩ := row_obj by3
  have R3 : Hid _ := b2.on k3
  clear b2 k2 bx2 k3 bx3 by3 HRW HSA
  go_upto_region 11 with fail
  generalize w2.alloc (.cells #[.int .i64 kind1, .int .i64 time1, .int .i64 seq1, .int .i64 index1, .int .i64 frm1, .int .i64 til1, .string body1] 41) = w3 at *
  generalize w2.heap.size = g2 at *
  generalize w1.heap.size = g1 at *
  have HT : Hid (∀ W2, Kept w3 W2 → Kept w3 W2 ∧ W2.cell? ⟨g1, 0, none⟩ = some (.int .i64 kind1) ∧ W2.cell? ⟨g1, 1, none⟩ = some (.int .i64 time1) ∧ W2.cell? ⟨g1, 2, none⟩ = some (.int .i64 seq1) ∧ W2.cell? ⟨g1, 3, none⟩ = some (.int .i64 index1) ∧ W2.cell? ⟨g1, 4, none⟩ = some (.int .i64 frm1) ∧ W2.cell? ⟨g1, 5, none⟩ = some (.int .i64 til1) ∧ W2.cell? ⟨g1, 6, none⟩ = some (.string body1) ∧ W2.cell? ⟨g2, 0, none⟩ = some (.int .i64 kind1) ∧ W2.cell? ⟨g2, 1, none⟩ = some (.int .i64 time1) ∧ W2.cell? ⟨g2, 2, none⟩ = some (.int .i64 seq1) ∧ W2.cell? ⟨g2, 3, none⟩ = some (.int .i64 index1) ∧ W2.cell? ⟨g2, 4, none⟩ = some (.int .i64 frm1) ∧ W2.cell? ⟨g2, 5, none⟩ = some (.int .i64 til1) ∧ W2.cell? ⟨g2, 6, none⟩ = some (.string body1)) := fun W2 k => by
    have t : ∀ o, W2.cell? ⟨g1, o, none⟩ = w3.cell? ⟨g1, o, none⟩ := fun o => k.cell (p := ⟨g1, o, none⟩) hl1 (fun e => e)
    have u : ∀ o, W2.cell? ⟨g2, o, none⟩ = w3.cell? ⟨g2, o, none⟩ := fun o => k.cell (p := ⟨g2, o, none⟩) hl2 (fun e => e)
    exact ⟨k, (t _).trans y0, (t _).trans y1, (t _).trans y2, (t _).trans y3, (t _).trans y4, (t _).trans y5, (t _).trans y6, (u _).trans z0, (u _).trans z1, (u _).trans z2, (u _).trans z3, (u _).trans z4, (u _).trans z5, (u _).trans z6⟩
  go_wp2_with fail
  go_region_held3 (fun W2 => Kept w3 W2 ∧ W2.cell? ⟨g1, 0, none⟩ = some (.int .i64 kind1) ∧ W2.cell? ⟨g1, 1, none⟩ = some (.int .i64 time1) ∧ W2.cell? ⟨g1, 2, none⟩ = some (.int .i64 seq1) ∧ W2.cell? ⟨g1, 3, none⟩ = some (.int .i64 index1) ∧ W2.cell? ⟨g1, 4, none⟩ = some (.int .i64 frm1) ∧ W2.cell? ⟨g1, 5, none⟩ = some (.int .i64 til1) ∧ W2.cell? ⟨g1, 6, none⟩ = some (.string body1) ∧ W2.cell? ⟨g2, 0, none⟩ = some (.int .i64 kind1) ∧ W2.cell? ⟨g2, 1, none⟩ = some (.int .i64 time1) ∧ W2.cell? ⟨g2, 2, none⟩ = some (.int .i64 seq1) ∧ W2.cell? ⟨g2, 3, none⟩ = some (.int .i64 index1) ∧ W2.cell? ⟨g2, 4, none⟩ = some (.int .i64 frm1) ∧ W2.cell? ⟨g2, 5, none⟩ = some (.int .i64 til1) ∧ W2.cell? ⟨g2, 6, none⟩ = some (.string body1))
    (exact HT.out _ (by (repeat (first | assumption | exact Same.refl _ _ | apply Same.alloc | apply Same.drew | apply Same.drewN)); done))
    (first
    | (go_at_call 13; refine Calls.mono (HP.out w3 _ (by (repeat (first | assumption | exact Same.refl _ _ | apply Same.alloc | apply Same.drew | apply Same.drewN)); done)) ?_; rintro e w4 ⟨rfl, k4⟩))
  all_goals
    go_wp2_with fail
    go_ret
    exact ⟨by first | exact rfl | (congr 1; simp), _, R3.out.on (by (repeat (first | assumption | exact Same.refl _ _ | apply Same.alloc | apply Same.drew | apply Same.drewN)); done)⟩
set_option maxRecDepth 100000 in
set_option maxHeartbeats 1000000 in
theorem step_none {w W : World} {b gs gn rb rs rr : Nat} {order : Int} {S : List Sr} (h : Bo w W b gs gn rb rs rr order S S) (k a : Int) (r : RwM) (hk : k ≠ 1 ∧ k ≠ 2 ∧ k ≠ 3 ∧ k ≠ 4 ∧ k ≠ 5) :
    Calls Try.prog 12 #[.pointer (some ⟨b, 0, none⟩), .pointer (some ⟨rb, 0, none⟩), opV k a r] W (StP w b gs gn rb rs rr order) := by
  have R1 : Hid _ := h.on ((Same.refl _ W).alloc (opO k a r))
  have d1 : (k == 1) = false := by simpa using hk.1
  have d2 : (k == 2) = false := by simpa using hk.2.1
  have d3 : (k == 3) = false := by simpa using hk.2.2.1
  have d4 : (k == 4) = false := by simpa using hk.2.2.2.1
  have d5 : (k == 5) = false := by simpa using hk.2.2.2.2
  clear h hk
  obtain ⟨kind, time, seq, index, frm, til, body⟩ := r
  unfold opV opO at *
  simp only at *
  go_enter Try.func12, Try.ntmps12
  go_wp2_with fail
  go_ret
  exact ⟨rfl, _, R1.out⟩
end Go.Proofs.Ytolaeiagfnhllaa
