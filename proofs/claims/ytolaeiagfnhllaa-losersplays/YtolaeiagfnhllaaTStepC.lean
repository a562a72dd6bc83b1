/- What is proved: steps of a script that ask which sources wait: both trees answer the same, and stand alike behind it; both were made by their New. -/
import Derived.Test.YtolaeiagfnhllaaTStepB
namespace Go.Proofs.Ytolaeiagfnhllaa
open Go.RowKit

theorem Bo.waits {w wr W : World} {b gs gn rb rs rr : Nat} {order : Int} {S T : List Sr} (h : Bo w wr b gs gn rb rs rr order S T) (k : Kept wr W) : Calls Try.prog 20 #[.pointer (some ⟨b, 0, none⟩)] W fun e w' => ∃ v, e = .returned v ∧ OwnZ W.heap.size w' v (wtl S) ∧ Kept wr w' := h.tl.waits k
theorem Bo.rwaits {w wr W : World} {b gs gn rb rs rr : Nat} {order : Int} {S T : List Sr} (h : Bo w wr b gs gn rb rs rr order S T) (k : Kept wr W) : Calls Try.prog 26 #[.pointer (some ⟨rb, 0, none⟩)] W fun e w' => ∃ v, e = .returned v ∧ OwnZ W.heap.size w' v (wtl T) ∧ Kept wr w' ∧ Kept W w' := by
  obtain ⟨R, rt⟩ := h.rt
  exact Calls.mono (rwaiting11 (rt.on k)) fun _ _ ⟨v, h1, h2, h3⟩ => ⟨v, h1, h2, k.trans' h3, h3⟩
theorem wtl_len (S : List Sr) : (wtl S).length ≤ S.length := wtq_len S _
set_option maxRecDepth 100000 in
set_option maxHeartbeats 1000000 in
theorem step_four {w W : World} {b gs gn rb rs rr : Nat} {order : Int} {S : List Sr} (h : Bo w W b gs gn rb rs rr order S S) (a : Int) (r : RwM) :
    Calls Try.prog 12 #[.pointer (some ⟨b, 0, none⟩), .pointer (some ⟨rb, 0, none⟩), opV 4 a r] W (StP w b gs gn rb rs rr order) := by
  have BO : Hid _ := h.on ((Same.refl _ W).alloc (opO 4 a r))
  have HF : Hid _ := BO.out.waits (Same.refl _ _)
  have hk1 := h.tl.tn.k.2
  have hwl := wtl_len S
  clear h
  obtain ⟨kind, time, seq, index, frm, til, body⟩ := r
  unfold opV opO at *
  simp only at *
  go_enter Try.func12, Try.ntmps12
  go_wp2_with fail
  refine Calls.mono HF.out ?_
  rintro e w1 ⟨v1, rfl, o1, k1⟩
  have HRF : Hid _ := BO.out.rwaits k1
  have O1 : Hid _ := o1
  clear o1 k1 HF
  go_wp2_with fail
  refine Calls.mono HRF.out ?_
  rintro e w2 ⟨v2, rfl, o2, k2, k2'⟩
  have o1 := OwnZ.kept O1.out k2' (fun _ _ e => e)
  obtain ⟨a1, c1, rfl, n1, -, -⟩ := OwnZ.nums o1
  obtain ⟨a2, c2, rfl, n2, -, -⟩ := OwnZ.nums o2
  have R2 : Hid _ := BO.out.on k2
  have N1 : Hid _ := n1
  have N2 : Hid _ := n2
  obtain ⟨n, en⟩ : ∃ n, n = (wtl S).length := ⟨_, rfl⟩
  rw [← en] at hwl ⊢
  have EN : Hid _ := en
  clear o1 o2 k2 k2' O1 HRF n1 n2 en
  go_wp2_with fail
  go_loopw [93] (fun i wr => ∃ (q : Nat), q ≤ n ∧ i = .int .i64 (q : Int) ∧ wr = w2) (fun i _ => n - (intOf i).toNat)
  case atStart => exact ⟨0, Nat.zero_le _, rfl, rfl⟩
  case round =>
    obtain ⟨q, hq, rfl, rfl⟩ := hrel
    by_cases hlt : q < n
    · have e1 : decide ((q : Int) < (n : Int)) = true := decide_eq_true (by omega)
      have e1' : (q : Int) < (n : Int) := by omega
      obtain ⟨b1, rfl, g1, p1, -⟩ := N1.out q (by rw [← EN.out]; exact hlt)
      obtain ⟨b2, rfl, g2, p2, -⟩ := N2.out q (by rw [← EN.out]; exact hlt)
      have hlt2 : Hid _ := hlt
      generalize (wtl S).getD q 0 = z at *
      go_wp2_with fail
      go_roundw
      case rel => exact ⟨q + 1, hlt2.out, by rw [Int.natCast_add]; rfl, by first | exact rfl | exact trivial⟩
      case measure => simp only [intOf]; omega
    · obtain rfl : n = q := by omega
      have e1 : decide ((n : Int) < (n : Int)) = false := by simp
      go_wp2_with fail
      go_ret
      exact ⟨rfl, _, R2.out⟩
set_option maxRecDepth 100000 in
set_option maxHeartbeats 1000000 in
theorem step_five {w W : World} {b gs gn rb rs rr : Nat} {order : Int} {S : List Sr} (h : Bo w W b gs gn rb rs rr order S S) (a : Int) (r : RwM) :
    Calls Try.prog 12 #[.pointer (some ⟨b, 0, none⟩), .pointer (some ⟨rb, 0, none⟩), opV 5 a r] W (StP w b gs gn rb rs rr order) := by
  have BO : Hid _ := h.on ((Same.refl _ W).alloc (opO 5 a r))
  have HF : Hid _ := BO.out.rwaits (Same.refl _ _)
  have BX0 : Hid _ := heap_new W (opO 5 a r)
  have hk1 := h.tl.tn.k.2
  have hwl := wtl_len S
  have HLT : Hid (∀ i, Ft b gs gn i ∨ RF rb rs rr i → i < W.heap.size) := h.lt
  have HP : Hid (∀ W0 W, Kept W0 W → Calls Try.prog 13 #[rowV r] W fun e w' => e = .returned (rowV r) ∧ Kept W0 w') := fun W0 W k => Calls.mono (plain_any r W) fun _ _ h => ⟨h.1, k.trans' h.2⟩
  have HSZ : Hid ((W.alloc (opO 5 a r)).heap.size = W.heap.size + 1) := World.size_alloc _ _
  clear h
  obtain ⟨kind, time, seq, index, frm, til, body⟩ := r
  unfold opV opO rowV at *
  simp only at *
  go_enter Try.func12, Try.ntmps12
  go_wp2_with fail
  refine Calls.mono HF.out ?_
  rintro e w1 ⟨v1, rfl, o1, k1, -⟩
  obtain ⟨a1, c1, rfl, n1, -, nb⟩ := OwnZ.nums o1
  have bx1 := (k1.block _ (lt_of_heap BX0.out) (fun e => e)).trans BX0.out
  obtain ⟨y0, y1, y2, y3, y4, y5, y6, y7, y8⟩ := op_obj bx1
  have hl1 := lt_of_heap bx1
  have B1 : Hid _ := BO.out.on k1
  obtain ⟨n, en⟩ : ∃ n, n = (wtl S).length := ⟨_, rfl⟩
  rw [← en] at hwl ⊢
  by_cases h0 : 0 < n
  · obtain ⟨bv, rfl, gv, pv, -⟩ := n1 0 (by rw [← en]; exact h0)
    have hbv := (nb bv 0 none rfl).1
    have d0 : (0 : Int) < (n : Int) := by omega
    have d0' : decide ((0 : Int) < (n : Int)) = true := decide_eq_true d0
    generalize (wtl S).getD 0 0 = z at *
    have HFD : Hid (∀ W2, Kept w1 W2 → Calls Try.prog 18 #[.pointer (some ⟨b, 0, none⟩), .int .i64 z, .agg #[.int .i64 kind, .int .i64 time, .int .i64 seq, .int .i64 index, .int .i64 frm, .int .i64 til, .string body]] W2 fun e w' => e = .returned (.int .i64 (feedC S z ⟨kind, time, seq, index, frm, til, body⟩)) ∧ Bo w w' b gs gn rb rs rr order (feedS S z ⟨kind, time, seq, index, frm, til, body⟩) S ∧ Same (Ft b gs gn) w1 w') := fun W2 (k : Kept w1 W2) => B1.out.feed k z ⟨kind, time, seq, index, frm, til, body⟩
    have HRF : Hid (∀ w2 S', Bo w w2 b gs gn rb rs rr order S' S → ∀ W2, Kept w2 W2 → Calls Try.prog 23 #[.pointer (some ⟨rb, 0, none⟩), .int .i64 z, .agg #[.int .i64 kind, .int .i64 time, .int .i64 seq, .int .i64 index, .int .i64 frm, .int .i64 til, .string body]] W2 fun e w' => e = .returned (.int .i64 (feedC S z ⟨kind, time, seq, index, frm, til, body⟩)) ∧ Bo w w' b gs gn rb rs rr order S' (feedS S z ⟨kind, time, seq, index, frm, til, body⟩) ∧ Same (RF rb rs rr) w2 w') := fun w2 S' hb W2 (k : Kept w2 W2) => hb.rfeed k z ⟨kind, time, seq, index, frm, til, body⟩
    have HT : Hid (∀ (T : Nat → Prop) W1 W2, (∀ i, T i → Ft b gs gn i ∨ RF rb rs rr i) → W.heap.size < W1.heap.size → bv < W1.heap.size → Same T W1 W2 → (∀ o, W2.cell? ⟨W.heap.size, o, none⟩ = W1.cell? ⟨W.heap.size, o, none⟩) ∧ W2.cell? ⟨bv, 0, none⟩ = W1.cell? ⟨bv, 0, none⟩) := fun T W1 W2 hT s1 s2 k =>
      ⟨fun o => k.cell (p := ⟨W.heap.size, o, none⟩) s1 (fun e => by have := HLT.out _ (hT _ e); exact Nat.lt_irrefl _ this), k.cell (p := ⟨bv, 0, none⟩) s2 (fun e => by have h1 : bv < W.heap.size := HLT.out _ (hT _ e); have := HSZ.out; omega)⟩
    have HT1 : Hid (∀ W2, Same (Ft b gs gn) w1 W2 → Same (Ft b gs gn) w1 W2 ∧ W2.cell? ⟨bv, 0, none⟩ = some (.int .i64 z) ∧ W2.cell? ⟨W.heap.size, 2, none⟩ = some (.int .i64 kind) ∧ W2.cell? ⟨W.heap.size, 3, none⟩ = some (.int .i64 time) ∧ W2.cell? ⟨W.heap.size, 4, none⟩ = some (.int .i64 seq) ∧ W2.cell? ⟨W.heap.size, 5, none⟩ = some (.int .i64 index) ∧ W2.cell? ⟨W.heap.size, 6, none⟩ = some (.int .i64 frm) ∧ W2.cell? ⟨W.heap.size, 7, none⟩ = some (.int .i64 til) ∧ W2.cell? ⟨W.heap.size, 8, none⟩ = some (.string body)) := fun W2 k => by
      obtain ⟨t, u⟩ := HT.out _ _ _ (fun i e => .inl e) hl1 gv k
      exact ⟨k, u.trans pv, (t _).trans y2, (t _).trans y3, (t _).trans y4, (t _).trans y5, (t _).trans y6, (t _).trans y7, (t _).trans y8⟩
    have HT2 : Hid (∀ w2, Same (Ft b gs gn) w1 w2 → ∀ W2, Same (RF rb rs rr) w2 W2 → Same (RF rb rs rr) w2 W2 ∧ W2.cell? ⟨bv, 0, none⟩ = some (.int .i64 z) ∧ W2.cell? ⟨W.heap.size, 2, none⟩ = some (.int .i64 kind) ∧ W2.cell? ⟨W.heap.size, 3, none⟩ = some (.int .i64 time) ∧ W2.cell? ⟨W.heap.size, 4, none⟩ = some (.int .i64 seq) ∧ W2.cell? ⟨W.heap.size, 5, none⟩ = some (.int .i64 index) ∧ W2.cell? ⟨W.heap.size, 6, none⟩ = some (.int .i64 frm) ∧ W2.cell? ⟨W.heap.size, 7, none⟩ = some (.int .i64 til) ∧ W2.cell? ⟨W.heap.size, 8, none⟩ = some (.string body)) := fun w2 k2 W2 k => by
      obtain ⟨-, u0, x2, x3, x4, x5, x6, x7, x8⟩ := HT1.out w2 k2
      obtain ⟨t, u⟩ := HT.out _ _ _ (fun i e => .inr e) (Nat.lt_of_lt_of_le hl1 k2.size) (Nat.lt_of_lt_of_le gv k2.size) k
      exact ⟨k, u.trans u0, (t _).trans x2, (t _).trans x3, (t _).trans x4, (t _).trans x5, (t _).trans x6, (t _).trans x7, (t _).trans x8⟩
    have HSL : Hid (∀ w2, Same (Ft b gs gn) w1 w2 → W.heap.size < w2.heap.size ∧ bv < w2.heap.size) := fun w2 k2 => ⟨Nat.lt_of_lt_of_le hl1 k2.size, Nat.lt_of_lt_of_le gv k2.size⟩
    generalize feedC S z ⟨kind, time, seq, index, frm, til, body⟩ = c at *
    generalize feedS S z ⟨kind, time, seq, index, frm, til, body⟩ = S' at *
    generalize W.heap.size = g at *
    clear o1 k1 n1 nb bx1 HF HT en BX0 BO y0 y1 hbv B1
    go_wp2_with fail
    go_region_held3 (fun W2 => Same (Ft b gs gn) w1 W2 ∧ W2.cell? ⟨bv, 0, none⟩ = some (.int .i64 z) ∧ W2.cell? ⟨g, 2, none⟩ = some (.int .i64 kind) ∧ W2.cell? ⟨g, 3, none⟩ = some (.int .i64 time) ∧ W2.cell? ⟨g, 4, none⟩ = some (.int .i64 seq) ∧ W2.cell? ⟨g, 5, none⟩ = some (.int .i64 index) ∧ W2.cell? ⟨g, 6, none⟩ = some (.int .i64 frm) ∧ W2.cell? ⟨g, 7, none⟩ = some (.int .i64 til) ∧ W2.cell? ⟨g, 8, none⟩ = some (.string body))
      (exact HT1.out _ (by (repeat (first | assumption | exact Same.refl _ _ | apply Same.alloc | apply Same.drew | apply Same.drewN)); done))
      (first
      | (go_at_call 18; refine Calls.mono (HFD.out _ (by (repeat (first | assumption | exact Same.refl _ _ | apply Same.alloc | apply Same.drew | apply Same.drewN)); done)) ?_; rintro e w2 ⟨rfl, b2, k2⟩))
    all_goals
      clear y2 y3 y4 y5 y6 y7 y8 pv gv hl1
      obtain ⟨-, pv, y2, y3, y4, y5, y6, y7, y8⟩ := HT2.out w2 k2 w2 (Same.refl _ _)
      obtain ⟨hl1, gv⟩ := HSL.out w2 k2
      have HRF2 : Hid _ := HRF.out w2 _ b2
      have HT3 : Hid _ := HT2.out w2 k2
      clear b2 k2 HRF HT2 HT1 HSL HFD
      go_wp2_with fail
      go_region_held3 (fun W2 => Same (RF rb rs rr) w2 W2 ∧ W2.cell? ⟨bv, 0, none⟩ = some (.int .i64 z) ∧ W2.cell? ⟨g, 2, none⟩ = some (.int .i64 kind) ∧ W2.cell? ⟨g, 3, none⟩ = some (.int .i64 time) ∧ W2.cell? ⟨g, 4, none⟩ = some (.int .i64 seq) ∧ W2.cell? ⟨g, 5, none⟩ = some (.int .i64 index) ∧ W2.cell? ⟨g, 6, none⟩ = some (.int .i64 frm) ∧ W2.cell? ⟨g, 7, none⟩ = some (.int .i64 til) ∧ W2.cell? ⟨g, 8, none⟩ = some (.string body))
        (exact HT3.out _ (by (repeat (first | assumption | exact Same.refl _ _ | apply Same.alloc | apply Same.drew | apply Same.drewN)); done))
        (first
        | (go_at_call 13; refine Calls.mono (HP.out w2 _ (by (repeat (first | assumption | exact Same.refl _ _ | apply Same.alloc | apply Same.drew | apply Same.drewN)); done)) ?_; rintro e w3 ⟨rfl, k3⟩; have kp3 : Same (RF rb rs rr) w2 w3 := Kept.to k3 _)
        | (go_at_call 23; refine Calls.mono (HRF2.out _ (by (repeat (first | assumption | exact Same.refl _ _ | apply Same.alloc | apply Same.drew | apply Same.drewN)); done)) ?_; rintro e w4 ⟨rfl, b4, k4⟩))
      all_goals
        have R4 : Hid _ := b4
        go_wp2_with fail
        go_ret
        exact ⟨by first | exact rfl | (congr 1; simp), _, by first | exact R4.out.on (Same.refl _ _).drew | exact R4.out⟩
  · have d0 : ¬ (0 : Int) < (n : Int) := by omega
    have d0' : decide ((0 : Int) < (n : Int)) = false := decide_eq_false d0
    clear o1 k1 n1 nb bx1 HF en BX0 BO
    go_wp2_with fail
    go_ret
    exact ⟨rfl, _, B1.out⟩
theorem step_any {w W : World} {b gs gn rb rs rr : Nat} {order : Int} {S : List Sr} (h : Bo w W b gs gn rb rs rr order S S) (k a : Int) (r : RwM) :
    Calls Try.prog 12 #[.pointer (some ⟨b, 0, none⟩), .pointer (some ⟨rb, 0, none⟩), opV k a r] W (StP w b gs gn rb rs rr order) := by
  by_cases h1 : k = 1
  · subst h1; exact step_one h a r
  by_cases h2 : k = 2
  · subst h2; exact step_two h a r
  by_cases h3 : k = 3
  · subst h3; exact step_three h a r
  by_cases h4 : k = 4
  · subst h4; exact step_four h a r
  by_cases h5 : k = 5
  · subst h5; exact step_five h a r
  exact step_none h k a r ⟨h1, h2, h3, h4, h5⟩
end Go.Proofs.Ytolaeiagfnhllaa
