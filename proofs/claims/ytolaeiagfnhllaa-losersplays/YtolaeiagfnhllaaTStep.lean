/- What is proved: one step of a script: both trees answer the same, and stand alike behind it; both were made by their New. -/
import Derived.Test.YtolaeiagfnhllaaTAnch
import Derived.Test.YtolaeiagfnhllaaTRFd
import Derived.Test.YtolaeiagfnhllaaTRWin
namespace Go.Proofs.Ytolaeiagfnhllaa
open Go.RowKit

/-- Both trees in memory, apart of one another, behind what was there ahead of them. -/
structure Bo (w wr : World) (b gs gn rb rs rr : Nat) (order : Int) (S T : List Sr) : Prop where
  tl : Tl w wr b gs gn order S
  rt : ∃ R, RT wr rb rs rr order T R
  ne : gn ≠ rs
  l1 : w.heap.size ≤ rb
  l2 : w.heap.size ≤ rs
  l3 : w.heap.size ≤ rr
theorem Bo.apart {w wr : World} {b gs gn rb rs rr : Nat} {order : Int} {S T : List Sr} (h : Bo w wr b gs gn rb rs rr order S T) : ∀ i, Ft b gs gn i → RF rb rs rr i → False := by
  obtain ⟨⟨nd, tr, -⟩, -⟩ := h.tl
  obtain ⟨R, rt⟩ := h.rt
  intro i h1 h2
  rcases h1 with rfl | rfl | rfl <;> rcases h2 with rfl | rfl | rfl
  · have := tr.obj.symm.trans rt.obj; simp at this
  · have := tr.obj.symm.trans rt.st; simp at this
  · have := tr.obj.symm.trans rt.row; simp at this
  · have := tr.src.symm.trans rt.obj; simp at this
  · have := tr.src.symm.trans rt.st; simp at this
  · have := tr.src.symm.trans rt.row; simp at this
  · have := tr.nod.symm.trans rt.obj; simp at this
  · exact h.ne rfl
  · have := tr.nod.symm.trans rt.row; simp at this
theorem Bo.on {w wr W : World} {b gs gn rb rs rr : Nat} {order : Int} {S T : List Sr} (h : Bo w wr b gs gn rb rs rr order S T) (k : Kept wr W) : Bo w W b gs gn rb rs rr order S T := by
  obtain ⟨R, rt⟩ := h.rt
  exact ⟨h.tl.on k, ⟨R, rt.on k⟩, h.ne, h.l1, h.l2, h.l3⟩
theorem Bo.code {w wr W : World} {b gs gn rb rs rr : Nat} {order : Int} {S S' T : List Sr} (h : Bo w wr b gs gn rb rs rr order S T) (t : Tl w W b gs gn order S') (k : Same (Ft b gs gn) wr W) : Bo w W b gs gn rb rs rr order S' T := by
  obtain ⟨R, rt⟩ := h.rt
  exact ⟨t, ⟨R, rt.onS k (fun e => h.apart _ e (.inl rfl)) (fun e => h.apart _ e (.inr (.inl rfl))) (fun e => h.apart _ e (.inr (.inr rfl)))⟩, h.ne, h.l1, h.l2, h.l3⟩
theorem Bo.ref {w wr W : World} {b gs gn rb rs rr : Nat} {order : Int} {S T T' : List Sr} (h : Bo w wr b gs gn rb rs rr order S T) (t : ∃ R, RT W rb rs rr order T' R) (k : Same (RF rb rs rr) wr W) : Bo w W b gs gn rb rs rr order S T' :=
  ⟨⟨h.tl.tn.onS k (fun e => h.apart _ (.inl rfl) e) (fun e => h.apart _ (.inr (.inl rfl)) e) (fun e => h.apart _ (.inr (.inr rfl)) e), h.tl.same.trans k fun i _ e => by
    have := h.l1
    have := h.l2
    have := h.l3
    rcases e with e | e | e <;> omega, h.tl.lb, h.tl.ls, h.tl.ln⟩, t, h.ne, h.l1, h.l2, h.l3⟩
theorem Bo.lt {w wr : World} {b gs gn rb rs rr : Nat} {order : Int} {S T : List Sr} (h : Bo w wr b gs gn rb rs rr order S T) : ∀ i, Ft b gs gn i ∨ RF rb rs rr i → i < wr.heap.size := by
  obtain ⟨h1, h2, h3⟩ := h.tl.tn.lt
  obtain ⟨R, rt⟩ := h.rt
  obtain ⟨-, h4, h5, h6⟩ := rt.cells
  rintro i ((rfl | rfl | rfl) | (rfl | rfl | rfl)) <;> assumption
theorem Bo.feed {w wr W : World} {b gs gn rb rs rr : Nat} {order : Int} {S T : List Sr} (h : Bo w wr b gs gn rb rs rr order S T) (k : Kept wr W) (i : Int) (r : RwM) : Calls Try.prog 18 #[.pointer (some ⟨b, 0, none⟩), .int .i64 i, rowV r] W fun e w' => e = .returned (.int .i64 (feedC S i r)) ∧ Bo w w' b gs gn rb rs rr order (feedS S i r) T ∧ Same (Ft b gs gn) wr w' :=
  Calls.mono (h.tl.feed k i r) fun _ _ ⟨h1, h2, h3⟩ => ⟨h1, h.code h2 h3, h3⟩
theorem Bo.rfeed {w wr W : World} {b gs gn rb rs rr : Nat} {order : Int} {S T : List Sr} (h : Bo w wr b gs gn rb rs rr order S T) (k : Kept wr W) (i : Int) (r : RwM) : Calls Try.prog 23 #[.pointer (some ⟨rb, 0, none⟩), .int .i64 i, rowV r] W fun e w' => e = .returned (.int .i64 (feedC T i r)) ∧ Bo w w' b gs gn rb rs rr order S (feedS T i r) ∧ Same (RF rb rs rr) wr w' := by
  obtain ⟨R, rt⟩ := h.rt
  exact Calls.mono (rfeed11 (rt.on k) i r) fun _ _ ⟨h1, h2, h3⟩ => ⟨h1, h.ref h2 ((k.to _).trans' h3), (k.to _).trans' h3⟩
theorem Bo.fin {w wr W : World} {b gs gn rb rs rr : Nat} {order : Int} {S T : List Sr} (h : Bo w wr b gs gn rb rs rr order S T) (k : Kept wr W) (i : Int) : Calls Try.prog 21 #[.pointer (some ⟨b, 0, none⟩), .int .i64 i] W fun e w' => e = .returned (.int .i64 (refC S i)) ∧ Bo w w' b gs gn rb rs rr order (finS S i) T ∧ Same (Ft b gs gn) wr w' :=
  Calls.mono (h.tl.finish k i) fun _ _ ⟨h1, h2, h3⟩ => ⟨h1, h.code h2 h3, h3⟩
theorem Bo.rfin {w wr W : World} {b gs gn rb rs rr : Nat} {order : Int} {S T : List Sr} (h : Bo w wr b gs gn rb rs rr order S T) (k : Kept wr W) (i : Int) : Calls Try.prog 24 #[.pointer (some ⟨rb, 0, none⟩), .int .i64 i] W fun e w' => e = .returned (.int .i64 (refC T i)) ∧ Bo w w' b gs gn rb rs rr order S (finS T i) ∧ Same (RF rb rs rr) wr w' := by
  obtain ⟨R, rt⟩ := h.rt
  exact Calls.mono (rfinish11 (rt.on k) i) fun _ _ ⟨h1, h2, h3⟩ => ⟨h1, h.ref h2 ((k.to _).trans' h3), (k.to _).trans' h3⟩
theorem Bo.win {w wr : World} {b gs gn rb rs rr : Nat} {order : Int} {S T : List Sr} (h : Bo w wr b gs gn rb rs rr order S T) : ∀ W, Kept wr W → Calls Try.prog 19 #[.pointer (some ⟨b, 0, none⟩)] W fun e w' => ∃ x r c S', e = .returned (.tuple #[.int .i64 ((x : Nat) : Int), rowV r, .int .i64 c]) ∧ WinR order S x r c S' ∧ Bo w w' b gs gn rb rs rr order S' T ∧ Same (Ft b gs gn) wr w' := fun _ k =>
  Calls.mono (win11 (h.tl.tn.on k)) fun _ _ ⟨x, r, c, S', h1, h2, h3, h4⟩ => ⟨x, r, c, S', h1, h2, h.code (h.tl.step h3 ((k.to _).trans' h4)) ((k.to _).trans' h4), (k.to _).trans' h4⟩
theorem Bo.rwin {w wr W : World} {b gs gn rb rs rr : Nat} {order : Int} {S T : List Sr} (h : Bo w wr b gs gn rb rs rr order S T) (k : Kept wr W) {x : Nat} {r : RwM} {c : Int} {T' : List Sr} (hw : WinR order T x r c T') : Calls Try.prog 25 #[.pointer (some ⟨rb, 0, none⟩)] W fun e w' => e = .returned (.tuple #[.int .i64 ((x : Nat) : Int), rowV r, .int .i64 c]) ∧ Bo w w' b gs gn rb rs rr order S T' ∧ Same (RF rb rs rr) wr w' := by
  obtain ⟨R, rt⟩ := h.rt
  refine Calls.mono (rwin11 (rt.on k)) fun _ _ ⟨y, s, d, T2, h1, h2, h3, h4⟩ => ?_
  obtain ⟨rfl, rfl, rfl, rfl⟩ := hw.det h2
  exact ⟨h1, h.ref h3 ((k.to _).trans' h4), (k.to _).trans' h4⟩
theorem eql_rrow11 (r : RwM) (w : World) : (binOp .eql 41 (rowV r) (rowV r)).run Try.prog w = .ok (.bool true) w := by
  obtain ⟨kind, time, seq, index, frm, til, body⟩ := r
  unfold rowV
  go_simp
theorem op_obj {w : World} {b : Nat} {o a k t s i f u y : Value} {ty : TypeId} (h : w.heap[b]? = some (.cells #[o, a, k, t, s, i, f, u, y] ty (0, 0))) :
    w.cell? ⟨b, 0, none⟩ = some o ∧ w.cell? ⟨b, 1, none⟩ = some a ∧ w.cell? ⟨b, 2, none⟩ = some k ∧ w.cell? ⟨b, 3, none⟩ = some t ∧ w.cell? ⟨b, 4, none⟩ = some s ∧ w.cell? ⟨b, 5, none⟩ = some i ∧ w.cell? ⟨b, 6, none⟩ = some f ∧ w.cell? ⟨b, 7, none⟩ = some u ∧ w.cell? ⟨b, 8, none⟩ = some y :=
  ⟨(cell_of h 0).trans rfl, (cell_of h 1).trans rfl, (cell_of h 2).trans rfl, (cell_of h 3).trans rfl, (cell_of h 4).trans rfl, (cell_of h 5).trans rfl, (cell_of h 6).trans rfl, (cell_of h 7).trans rfl, (cell_of h 8).trans rfl⟩
/-- A step as a value. -/
def opV (k a : Int) (r : RwM) : Value := .agg #[.int .i64 k, .int .i64 a, .int .i64 r.kind, .int .i64 r.time, .int .i64 r.seq, .int .i64 r.index, .int .i64 r.frm, .int .i64 r.til, .string r.body]
def opO (k a : Int) (r : RwM) : Obj := .cells #[.int .i64 k, .int .i64 a, .int .i64 r.kind, .int .i64 r.time, .int .i64 r.seq, .int .i64 r.index, .int .i64 r.frm, .int .i64 r.til, .string r.body] 34 (0, 0)
/-- What a step leaves. -/
abbrev StP (w : World) (b gs gn rb rs rr : Nat) (order : Int) : Ending → World → Prop := fun e w' => e = .returned (.bool true) ∧ ∃ S', Bo w w' b gs gn rb rs rr order S' S'
set_option maxRecDepth 100000 in
set_option maxHeartbeats 1000000 in
theorem step_one {w W : World} {b gs gn rb rs rr : Nat} {order : Int} {S : List Sr} (h : Bo w W b gs gn rb rs rr order S S) (a : Int) (r : RwM) :
    Calls Try.prog 12 #[.pointer (some ⟨b, 0, none⟩), .pointer (some ⟨rb, 0, none⟩), opV 1 a r] W (StP w b gs gn rb rs rr order) := by
  have HP : Hid (∀ W0 W, Kept W0 W → Calls Try.prog 13 #[rowV r] W fun e w' => e = .returned (rowV r) ∧ Kept W0 w') := fun W0 W k => Calls.mono (plain_any r W) fun _ _ h => ⟨h.1, k.trans' h.2⟩
  have BX0 := heap_new W (opO 1 a r)
  have HLT : Hid (∀ i, Ft b gs gn i ∨ RF rb rs rr i → i < W.heap.size) := h.lt
  have HSA : Hid (∀ w1, Same (Ft b gs gn) (W.alloc (opO 1 a r)) w1 → w1.heap[W.heap.size]? = some (opO 1 a r)) := fun w1 k => (k.block _ (lt_of_heap BX0) (fun e => by have := h.lt _ (.inl e); omega)).trans BX0
  have HF : Hid _ := (h.on ((Same.refl _ W).alloc (opO 1 a r))).feed (Same.refl _ _) a r
  clear h BX0
  obtain ⟨kind, time, seq, index, frm, til, body⟩ := r
  unfold opV opO rowV at *
  simp only at *
  go_enter Try.func12, Try.ntmps12
  go_wp2_with fail
  refine Calls.mono HF.out ?_
  rintro e w1 ⟨rfl, b1, k1⟩
  have bx1 := HSA.out _ k1
  obtain ⟨y0, y1, y2, y3, y4, y5, y6, y7, y8⟩ := op_obj bx1
  have hl1 := lt_of_heap bx1
  have HRF : Hid (∀ W2, Kept w1 W2 → _) := fun W2 (k : Kept w1 W2) => b1.rfeed k a ⟨kind, time, seq, index, frm, til, body⟩
  unfold rowV at HRF
  simp only at HRF
  have HT : Hid (∀ W2, Same (RF rb rs rr) w1 W2 → Same (RF rb rs rr) w1 W2 ∧ W2.cell? ⟨W.heap.size, 1, none⟩ = some (.int .i64 a) ∧ W2.cell? ⟨W.heap.size, 2, none⟩ = some (.int .i64 kind) ∧ W2.cell? ⟨W.heap.size, 3, none⟩ = some (.int .i64 time) ∧ W2.cell? ⟨W.heap.size, 4, none⟩ = some (.int .i64 seq) ∧ W2.cell? ⟨W.heap.size, 5, none⟩ = some (.int .i64 index) ∧ W2.cell? ⟨W.heap.size, 6, none⟩ = some (.int .i64 frm) ∧ W2.cell? ⟨W.heap.size, 7, none⟩ = some (.int .i64 til) ∧ W2.cell? ⟨W.heap.size, 8, none⟩ = some (.string body)) := fun W2 k => by
    have t : ∀ o, W2.cell? ⟨W.heap.size, o, none⟩ = w1.cell? ⟨W.heap.size, o, none⟩ := fun o => k.cell (p := ⟨W.heap.size, o, none⟩) hl1 (fun e => by have := HLT.out _ (.inr e); exact Nat.lt_irrefl _ this)
    exact ⟨k, (t _).trans y1, (t _).trans y2, (t _).trans y3, (t _).trans y4, (t _).trans y5, (t _).trans y6, (t _).trans y7, (t _).trans y8⟩
  generalize feedC S a ⟨kind, time, seq, index, frm, til, body⟩ = c at *
  generalize feedS S a ⟨kind, time, seq, index, frm, til, body⟩ = S' at *
  generalize W.heap.size = g at *
  clear b1 k1 bx1 HF HSA y0
  go_wp2_with fail
  go_region_held3 (fun W2 => Same (RF rb rs rr) w1 W2 ∧ W2.cell? ⟨g, 1, none⟩ = some (.int .i64 a) ∧ W2.cell? ⟨g, 2, none⟩ = some (.int .i64 kind) ∧ W2.cell? ⟨g, 3, none⟩ = some (.int .i64 time) ∧ W2.cell? ⟨g, 4, none⟩ = some (.int .i64 seq) ∧ W2.cell? ⟨g, 5, none⟩ = some (.int .i64 index) ∧ W2.cell? ⟨g, 6, none⟩ = some (.int .i64 frm) ∧ W2.cell? ⟨g, 7, none⟩ = some (.int .i64 til) ∧ W2.cell? ⟨g, 8, none⟩ = some (.string body))
    (exact HT.out _ (by (repeat (first | assumption | exact Same.refl _ _ | apply Same.alloc | apply Same.drew | apply Same.drewN)); done))
    (first
    | (go_at_call 13; refine Calls.mono (HP.out w1 _ (by (repeat (first | assumption | exact Same.refl _ _ | apply Same.alloc | apply Same.drew | apply Same.drewN)); done)) ?_; rintro e w2 ⟨rfl, k2⟩; have kp2 : Same (RF rb rs rr) w1 w2 := Kept.to k2 _)
    | (go_at_call 23; refine Calls.mono (HRF.out _ (by (repeat (first | assumption | exact Same.refl _ _ | apply Same.alloc | apply Same.drew | apply Same.drewN)); done)) ?_; rintro e w3 ⟨rfl, b3, k3⟩))
  all_goals
    have R3 : Hid _ := b3
    go_wp2_with fail
    go_ret
    exact ⟨by first | exact rfl | (congr 1; simp), _, by first | exact R3.out.on (Same.refl _ _).drew | exact R3.out⟩
end Go.Proofs.Ytolaeiagfnhllaa
