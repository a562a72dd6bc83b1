/- What is proved: two tables of lists of rows that grow beside one another, each in a row of its own; no condition but the bounds that a machine's memory sets. -/
import Derived.Test.YtolaeiagfnhllaaTRMg
import Derived.Test.YtolaeiagfnhllaaNPln
namespace Go.Proofs.Ytolaeiagfnhllaa
open Go.RowKit

theorem Try.infoL1 : (Try.prog.info? 39).map (fun i => (i.zero, i.size, i.bytes)) = some (some (.slice none 0 0), 1, 24) := by kernel_rfl
theorem Try.infoL2 : (Try.prog.info? 40).map (fun i => (i.zero, i.size, i.bytes)) = some (some (.slice none 0 0), 1, 24) := by kernel_rfl
/-- One value more behind a table. -/
theorem app_tab {e t : TypeId} (hu : Try.prog.underlying t = some (.slice e)) (hi : (Try.prog.info? e).map (fun i => (i.zero, i.size, i.bytes)) = some (some (.slice none 0 0), 1, 24))
    {w : World} {base : Nat} {v : Value} {V : List Value} (a : Option Addr) (m c : Nat) (hown : w.ownsRow base e 1 v V.length V) (hb : V.length + 1 ≤ 4398046511104) (hbase : base ≤ w.heap.size) (ty : TypeId) :
    ∃ v' w', (Builtin.append_ #[t, t] ty #[v, .slice (some ⟨w.heap.size, 0, none⟩) 1 1]).run Try.prog (w.alloc (.cells #[.slice a m c] e)) = .ok v' w' ∧ w'.ownsRow base e 1 v' (V ++ [Value.slice a m c]).length (V ++ [Value.slice a m c]) ∧ Same (fun k => v.ownBlock = some k) w w' ∧ ∀ k, v'.ownBlock = some k → v.ownBlock = some k ∨ w.heap.size ≤ k := by
  obtain ⟨i0, hi0, hz0, hz1, hz2⟩ := info_parts hi
  have k0 : Kept w (w.alloc (.cells #[.slice a m c] e (0, 0))) := (Same.refl _ w).alloc _
  have ho : (w.alloc (.cells #[.slice a m c] e)).ownsRow base e 1 v V.length V := by
    refine ⟨hown.1, ?_⟩
    rcases hown.2 with h2 | ⟨g, cap, cur, rfl, hb, hg, h1, h2, h3, h4⟩
    · exact .inl h2
    · exact .inr ⟨g, cap, cur, rfl, hb, (k0.block g (lt_of_heap hg) (fun e => e)).trans hg, h1, h2, h3, h4⟩
  have hcell := heap_new w (.cells #[.slice a m c] e (0, 0))
  obtain ⟨v', w', hr, r1, r2, _, r3⟩ := run_append_own_at (P := Try.prog) (w := w.alloc (.cells #[.slice a m c] e)) base t ty e i0 _ 1 24 hu hi0 hz0 hz1 hz2 rfl (by decide) v V.length _ ho ⟨w.heap.size, 0, none⟩ 1 1 [.slice a m c] rfl
    (fun j u hu => by
      rw [Addr.add_lit, Nat.zero_add, cell_of hcell]
      simpa using hu) (fun x hx => by rw [List.mem_singleton] at hx; subst hx; rfl) (by unfold maxLen; omega) (by omega) (by simp [World.size_alloc]; omega)
  refine ⟨v', w', hr, by rw [List.length_append]; exact r1, (Kept.to k0 _).trans' (Same.of_grown r2 (fun k e => e)), fun k hk => ?_⟩
  rcases r3 with e | e
  · exact .inl (e ▸ hk)
  · rw [e] at hk
    cases hk
    rw [World.size_alloc]
    exact .inr (by omega)
theorem own_block {e : TypeId} {n base : Nat} {w : World} {v : Value} {V : List Value} (h : w.ownsRow base e n v V.length V) {k : Nat} (hk : v.ownBlock = some k) : base ≤ k ∧ ∃ cur, w.heap[k]? = some (.cells cur e (0, 0)) := by
  rcases h.2 with ⟨rfl, _⟩ | ⟨g, cap, cur, rfl, hb, hg, h1, h2, h3, h4⟩
  · simp [Value.ownBlock] at hk
  · simp [Value.ownBlock] at hk
    subst hk
    exact ⟨hb, cur, hg⟩
theorem own_on {S : Nat → Prop} {e : TypeId} {n base : Nat} {w w' : World} {v : Value} {V : List Value} (h : w.ownsRow base e n v V.length V) (k : Same S w w') (hn : ∀ j, v.ownBlock = some j → ¬ S j) : w'.ownsRow base e n v V.length V := by
  refine ⟨h.1, ?_⟩
  rcases h.2 with h2 | ⟨g, cap, cur, rfl, hb, hg, h1, h2, h3, h4⟩
  · exact .inl h2
  · exact .inr ⟨g, cap, cur, rfl, hb, (k.block g (lt_of_heap hg) (hn g (by simp [Value.ownBlock]))).trans hg, h1, h2, h3, h4⟩
/-- The table v of the lists Q, apart of the block that u has. -/
structure Tb (e : TypeId) (base : Nat) (w : World) (v : Value) (Q : List (List RwM)) (u : Value) : Prop where
  ex : ∃ V : List Value, w.ownsRow base e 1 v V.length V ∧ V.length = Q.length ∧ ∀ (i : Nat) (l : List RwM), Q[i]? = some l → ∃ x c, V[i]? = some (Value.slice x l.length c) ∧ RowsAt w x l ∧ ∀ k, InB x l.length k → v.ownBlock ≠ some k ∧ u.ownBlock ≠ some k
theorem Tb.nil (e : TypeId) (base : Nat) (w : World) (u : Value) : Tb e base w (.slice none 0 0) [] u :=
  ⟨[], World.ownsRow_nil w base e 1, rfl, fun i l h => by simp at h⟩
theorem Tb.on {e : TypeId} {base : Nat} {w W : World} {v u : Value} {Q : List (List RwM)} (h : Tb e base w v Q u) (k : Kept w W) : Tb e base W v Q u := by
  obtain ⟨V, h1, h2, h3⟩ := h.ex
  exact ⟨V, own_on h1 k (fun _ _ e => e), h2, fun i l hl => by
    obtain ⟨x, c, e1, e2, e3⟩ := h3 i l hl
    exact ⟨x, c, e1, e2.on k, e3⟩⟩
/-- The other table has grown. -/
theorem Tb.other {e : TypeId} {base : Nat} {w w' : World} {v u u' : Value} {Q : List (List RwM)} (h : Tb e base w v Q u) (k : Same (fun j => u.ownBlock = some j) w w') (hne : ∀ j, v.ownBlock = some j → u.ownBlock ≠ some j) (hn : ∀ j, u'.ownBlock = some j → u.ownBlock = some j ∨ w.heap.size ≤ j) : Tb e base w' v Q u' := by
  obtain ⟨V, h1, h2, h3⟩ := h.ex
  refine ⟨V, own_on h1 k hne, h2, fun i l hl => ?_⟩
  obtain ⟨x, c, e1, e2, e3⟩ := h3 i l hl
  refine ⟨x, c, e1, e2.kept k fun j hj => (e3 j hj).2, fun j hj => ⟨(e3 j hj).1, fun e4 => ?_⟩⟩
  rcases hn j e4 with e5 | e5
  · exact (e3 j hj).2 e5
  · have := e2.lt hj
    omega
/-- The table itself has grown. -/
theorem Tb.grow {e t : TypeId} (hu : Try.prog.underlying t = some (.slice e)) (hi : (Try.prog.info? e).map (fun i => (i.zero, i.size, i.bytes)) = some (some (.slice none 0 0), 1, 24))
    {base : Nat} {w : World} {v u : Value} {Q : List (List RwM)} (h : Tb e base w v Q u) {x : Option Addr} {c : Nat} {l : List RwM} (hr : RowsAt w x l) (hx : ∀ k, InB x l.length k → v.ownBlock ≠ some k ∧ u.ownBlock ≠ some k) (hq : Q.length + 1 ≤ 4398046511104) (hbase : base ≤ w.heap.size) (ty : TypeId) :
    ∃ v' w', (Builtin.append_ #[t, t] ty #[v, .slice (some ⟨w.heap.size, 0, none⟩) 1 1]).run Try.prog (w.alloc (.cells #[.slice x l.length c] e)) = .ok v' w' ∧ Tb e base w' v' (Q ++ [l]) u ∧ Same (fun k => v.ownBlock = some k) w w' ∧ ∀ k, v'.ownBlock = some k → v.ownBlock = some k ∨ w.heap.size ≤ k := by
  obtain ⟨V, h1, h2, h3⟩ := h.ex
  obtain ⟨v', w', r1, r2, r3, r4⟩ := app_tab hu hi x l.length c h1 (by rw [h2]; exact hq) hbase ty
  refine ⟨v', w', r1, ⟨V ++ [.slice x l.length c], r2, by simp [h2], fun i y hy => ?_⟩, r3, r4⟩
  have key : ∀ (z : Option Addr) (y : List RwM), RowsAt w z y → (∀ k, InB z y.length k → v.ownBlock ≠ some k ∧ u.ownBlock ≠ some k) → RowsAt w' z y ∧ ∀ k, InB z y.length k → v'.ownBlock ≠ some k ∧ u.ownBlock ≠ some k := fun z y q1 q2 => ⟨q1.kept r3 fun j hj => (q2 j hj).1, fun j hj => ⟨fun e4 => by
    rcases r4 j e4 with e5 | e5
    · exact (q2 j hj).1 e5
    · have := q1.lt hj
      omega, (q2 j hj).2⟩⟩
  rcases Nat.lt_trichotomy i Q.length with hi2 | hi2 | hi2
  · rw [List.getElem?_append_left hi2] at hy
    obtain ⟨z, d, e1, e2, e3⟩ := h3 i y hy
    obtain ⟨k1, k2⟩ := key z y e2 e3
    exact ⟨z, d, by rw [List.getElem?_append_left (by rw [h2]; exact hi2)]; exact e1, k1, k2⟩
  · subst hi2
    rw [List.getElem?_append_right (Nat.le_refl _), Nat.sub_self] at hy
    cases hy
    obtain ⟨k1, k2⟩ := key x l hr hx
    exact ⟨x, c, by rw [← h2, List.getElem?_append_right (Nat.le_refl _), Nat.sub_self]; rfl, k1, k2⟩
  · rw [List.getElem?_eq_none (by simp; omega)] at hy
    cases hy
theorem Tb.lists {e : TypeId} {base : Nat} {w : World} {v u : Value} {Q : List (List RwM)} (h : Tb e base w v Q u) : ∃ a c, v = .slice a Q.length c ∧ ListsAt w a Q := by
  obtain ⟨V, h1, h2, h3⟩ := h.ex
  rcases h1.2 with ⟨rfl, hn⟩ | ⟨g, cap, cur, rfl, hb, hg, g1, g2, g3, g4⟩
  · have : Q = [] := List.eq_nil_of_length_eq_zero (by omega)
    subst this
    exact ⟨none, 0, rfl, fun i l hl => by simp at hl⟩
  · rw [h2]
    refine ⟨_, cap, rfl, fun i l hl => ?_⟩
    obtain ⟨x, c, e1, e2, -⟩ := h3 i l hl
    have hi := (List.getElem?_eq_some_iff.1 hl).1
    refine ⟨g, 0, x, c, rfl, lt_of_heap hg, ?_, e2⟩
    rw [Nat.zero_add, cell_of hg, ← e1, ← g4, List.getElem?_take_of_lt (by omega)]
    simp
/-- Both tables: of lists of rows, and of the document's rows. -/
structure Tw (w0 wr : World) (v5 v6 : Value) (Q5 Q6 : List (List RwM)) : Prop where
  a : Tb 39 w0.heap.size wr v5 Q5 v6
  b : Tb 40 w0.heap.size wr v6 Q6 v5
  same : Same (fun k => w0.heap.size ≤ k) w0 wr
theorem Tw.on {w0 wr W : World} {v5 v6 : Value} {Q5 Q6 : List (List RwM)} (h : Tw w0 wr v5 v6 Q5 Q6) (k : Kept wr W) : Tw w0 W v5 v6 Q5 Q6 := ⟨h.a.on k, h.b.on k, h.same.trans' (k.to _)⟩
theorem Tw.kept {w0 wr : World} {v5 v6 : Value} {Q5 Q6 : List (List RwM)} (h : Tw w0 wr v5 v6 Q5 Q6) : Kept w0 wr := h.same.mono fun i hi e => by omega
theorem Tw.ne {w0 wr : World} {v5 v6 : Value} {Q5 Q6 : List (List RwM)} (h : Tw w0 wr v5 v6 Q5 Q6) (j : Nat) : ¬ (v5.ownBlock = some j ∧ v6.ownBlock = some j) := fun ⟨e1, e2⟩ => by
  obtain ⟨V, h1, -, -⟩ := h.a.ex
  obtain ⟨U, h2, -, -⟩ := h.b.ex
  obtain ⟨-, c1, g1⟩ := own_block h1 e1
  obtain ⟨-, c2, g2⟩ := own_block h2 e2
  have := g1.symm.trans g2
  simp at this
theorem Tw.low {w0 wr : World} {v5 v6 : Value} {Q5 Q6 : List (List RwM)} (h : Tw w0 wr v5 v6 Q5 Q6) {j : Nat} (e : v5.ownBlock = some j ∨ v6.ownBlock = some j) : w0.heap.size ≤ j ∧ j < wr.heap.size := by
  obtain ⟨V, h1, -, -⟩ := h.a.ex
  obtain ⟨U, h2, -, -⟩ := h.b.ex
  rcases e with e | e
  · obtain ⟨q1, c1, g1⟩ := own_block h1 e
    exact ⟨q1, lt_of_heap g1⟩
  · obtain ⟨q1, c1, g1⟩ := own_block h2 e
    exact ⟨q1, lt_of_heap g1⟩
/-- A list more of the document's rows, made behind world wr. -/
theorem Tw.want {w0 wr W : World} {v5 v6 : Value} {Q5 Q6 : List (List RwM)} (h : Tw w0 wr v5 v6 Q5 Q6) (k : Kept wr W) {x : Option Addr} {c : Nat} {l : List RwM} (hr : RowsAt W x l) (hx : ∀ j, InB x l.length j → wr.heap.size ≤ j) (hq : Q6.length + 1 ≤ 4398046511104) (ty : TypeId) :
    ∃ v' w', (Builtin.append_ #[38, 38] ty #[v6, .slice (some ⟨W.heap.size, 0, none⟩) 1 1]).run Try.prog (W.alloc (.cells #[.slice x l.length c] 40)) = .ok v' w' ∧ Tw w0 w' v5 v' Q5 (Q6 ++ [l]) := by
  have hW := h.on k
  have ap : ∀ j, InB x l.length j → v6.ownBlock ≠ some j ∧ v5.ownBlock ≠ some j := fun j hj => by
    have h1 := hx j hj
    exact ⟨fun e => by have := (h.low (.inr e)).2; omega, fun e => by have := (h.low (.inl e)).2; omega⟩
  obtain ⟨v', w', r1, r2, r3, r4⟩ := Tb.grow Try.underlying38 Try.infoL2 hW.b (c := c) hr ap hq hW.same.size ty
  exact ⟨v', w', r1, hW.a.other r3 (fun j e1 e2 => hW.ne j ⟨e1, e2⟩) r4, r2, hW.same.trans r3 fun j _ e => (hW.low (.inr e)).1⟩
theorem Tw.arg {w0 wr W : World} {v5 v6 : Value} {Q5 Q6 : List (List RwM)} (h : Tw w0 wr v5 v6 Q5 Q6) (k : Kept wr W) {x : Option Addr} {c : Nat} {l : List RwM} (hr : RowsAt W x l) (hx : ∀ j, InB x l.length j → wr.heap.size ≤ j) (hq : Q5.length + 1 ≤ 4398046511104) (ty : TypeId) :
    ∃ v' w', (Builtin.append_ #[37, 37] ty #[v5, .slice (some ⟨W.heap.size, 0, none⟩) 1 1]).run Try.prog (W.alloc (.cells #[.slice x l.length c] 39)) = .ok v' w' ∧ Tw w0 w' v' v6 (Q5 ++ [l]) Q6 := by
  have hW := h.on k
  have ap : ∀ j, InB x l.length j → v5.ownBlock ≠ some j ∧ v6.ownBlock ≠ some j := fun j hj => by
    have h1 := hx j hj
    exact ⟨fun e => by have := (h.low (.inl e)).2; omega, fun e => by have := (h.low (.inr e)).2; omega⟩
  obtain ⟨v', w', r1, r2, r3, r4⟩ := Tb.grow Try.underlying37 Try.infoL1 hW.a (c := c) hr ap hq hW.same.size ty
  exact ⟨v', w', r1, r2, hW.b.other r3 (fun j e1 e2 => hW.ne j ⟨e2, e1⟩) r4, hW.same.trans r3 fun j _ e => (hW.low (.inl e)).1⟩
theorem OwnR.own_in {base : Nat} {w : World} {v : Value} {l : List RwM} (h : OwnR base w v l) : ∃ a cap, v = .slice a l.length cap ∧ RowsAt w a l ∧ ∀ k, InB a l.length k → base ≤ k := by
  obtain ⟨a, cap, e, hr, -⟩ := h.rows
  refine ⟨a, cap, e, hr, fun k hk => ?_⟩
  obtain ⟨-, o, rfl⟩ := hk
  rcases h.2 with ⟨e2, _⟩ | ⟨g, cap', cur, e2, hb, hg, _⟩
  · rw [e] at e2
    cases e2
  · rw [e] at e2
    simp only [Value.slice.injEq, Option.some.injEq, Addr.mk.injEq] at e2
    omega
end Go.Proofs.Ytolaeiagfnhllaa
