/- What is proved: lists of nodes in memory, one's own: what reading a node finds, what writing one leaves; a forest's own cells. -/
import Derived.Test.YtaiaahcblohknaaYPl
import Derived.Test.YtaiaahcblohknaaCApp
import Derived.Deep.DeepAppendWide
import Derived.Laws.StructEq
import Derived.Lib.MinMax
namespace Go.Proofs.Ytaiaahcblohknaa
open Go.RowKit

theorem Try.infoNode : (Try.prog.info? 74).map (fun i => (i.zero, i.size, i.bytes)) = some (some (.agg #[.int .i64 0, .int .i64 0, .int .i64 0, .int .i64 0, .int .i64 0, .int .i64 0, .int .i64 0, .int .i64 0]), 8, 64) := by kernel_rfl
/-- A span as a value. -/
abbrev spV (x : Sp) : Value := .agg #[.int .i64 x.f, .int .i64 x.t, .int .i64 x.i]
def nc1 (n : Nd) : List Value := [.int .i64 n.s.f, .int .i64 n.s.t, .int .i64 n.s.i, .int .i64 n.l, .int .i64 n.r, .int .i64 n.h, .int .i64 n.fi, .int .i64 n.la]
def ncs (l : List Nd) : List Value := l.flatMap nc1
theorem length_ncs (l : List Nd) : (ncs l).length = l.length * 8 := by
  induction l with
  | nil => rfl
  | cons a r ih => simp only [ncs, List.flatMap_cons, List.length_append, List.length_cons, nc1, List.length_nil] at *; omega
theorem ncs_cons (x : Nd) (l : List Nd) : ncs (x :: l) = nc1 x ++ ncs l := rfl
theorem ncs_append (a b : List Nd) : ncs (a ++ b) = ncs a ++ ncs b := by simp [ncs]
theorem ncs_get {l : List Nd} {i : Nat} {x : Nd} (h : l[i]? = some x) (j : Nat) (hj : j < 8) : (ncs l)[i * 8 + j]? = (nc1 x)[j]? := by
  induction l generalizing i with
  | nil => simp at h
  | cons a l ih =>
    cases i with
    | zero =>
      simp only [List.getElem?_cons_zero, Option.some.injEq] at h
      subst h
      rw [ncs_cons, Nat.zero_mul, Nat.zero_add, List.getElem?_append_left (by exact hj)]
    | succ i =>
      simp only [List.getElem?_cons_succ] at h
      rw [ncs_cons, List.getElem?_append_right (by show 8 ≤ _; omega), ← ih h]
      congr 1
      show (i + 1) * 8 + j - 8 = _
      omega
theorem ncs_one (l : List Nd) : ∀ v ∈ ncs l, v.oneCell' = true := by
  intro v hv
  obtain ⟨r, _, hf⟩ := List.mem_flatMap.1 hv
  simp only [nc1, List.mem_cons, List.not_mem_nil, or_false] at hf
  rcases hf with rfl | rfl | rfl | rfl | rfl | rfl | rfl | rfl <;> rfl
theorem ncs_set (l : List Nd) (i : Nat) (x : Nd) (hi : i < l.length) : ncs (l.set i x) = (ncs l).take (i * 8) ++ nc1 x ++ (ncs l).drop (i * 8 + 8) := by
  induction l generalizing i with
  | nil => simp at hi
  | cons a l ih =>
    cases i with
    | zero => rw [List.set_cons_zero, ncs_cons, ncs_cons]; simp [nc1]
    | succ i =>
      rw [List.set_cons_succ, ncs_cons, ncs_cons, ih i (by simpa using hi)]
      have e : (nc1 a).length = 8 := rfl
      rw [show (i + 1) * 8 = (nc1 a).length + i * 8 by rw [e]; omega, List.take_length_add_append, show (nc1 a).length + i * 8 + 8 = (nc1 a).length + (i * 8 + 8) by omega, List.drop_length_add_append]
      simp
/-- The list of nodes in block g. -/
def NodesIn (w : World) (g cap : Nat) (N : List Nd) : Prop := ∃ cur, w.heap[g]? = some (.cells cur 74 (0, 0)) ∧ N.length ≤ cap ∧ cap ≤ maxLen ∧ cur.size = cap * 8 ∧ cur.toList.take (N.length * 8) = ncs N
theorem NodesIn.cell {w : World} {g cap : Nat} {N : List Nd} (h : NodesIn w g cap N) {i : Nat} {x : Nd} (hx : N[i]? = some x) (j : Nat) (hj : j < 8) : w.cell? ⟨g, i * 8 + j, none⟩ = (nc1 x)[j]? := by
  obtain ⟨cur, hg, h1, h2, h3, h4⟩ := h
  have hi := (List.getElem?_eq_some_iff.1 hx).1
  rw [cell_of hg, ← ncs_get hx j hj, ← h4, List.getElem?_take_of_lt (by omega)]
  simp
theorem NodesIn.frozen {w : World} {g cap : Nat} {N : List Nd} (h : NodesIn w g cap N) (o : Nat) : w.frozen? ⟨g, o, none⟩ = false := by
  obtain ⟨cur, hg, -⟩ := h
  exact frozen_of hg o
theorem NodesIn.kept {S : Nat → Prop} {w w' : World} {g cap : Nat} {N : List Nd} (h : NodesIn w g cap N) (hs : Same S w w') (hn : ¬ S g) : NodesIn w' g cap N := by
  obtain ⟨cur, hg, h1⟩ := h
  exact ⟨cur, (hs.block g (lt_of_heap hg) hn).trans hg, h1⟩
/-- One cell of a node is written: the list with that node in its place. -/
theorem NodesIn.put {w : World} {g cap : Nat} {N : List Nd} (h : NodesIn w g cap N) {i j : Nat} {x y : Nd} (hx : N[i]? = some x) (hj : j < 8) {v : Value} (hv : (nc1 x).set j v = nc1 y) : NodesIn (w.setCell ⟨g, i * 8 + j, none⟩ v) g cap (N.set i y) := by
  obtain ⟨cur, hg, h1, h2, h3, h4⟩ := h
  have hi := (List.getElem?_eq_some_iff.1 hx).1
  refine ⟨_, setCell_at hg _ _, by simpa using h1, h2, by simpa using h3, ?_⟩
  have hsz : i * 8 + j < cur.size := by rw [h3]; have := Nat.mul_le_mul_right 8 h1; omega
  rw [List.length_set]
  apply List.ext_getElem?
  intro k
  by_cases hk : k < N.length * 8
  · rw [List.getElem?_take_of_lt hk]
    have hq : ∃ z, (N.set i y)[k / 8]? = some z := ⟨_, List.getElem?_eq_getElem (by rw [List.length_set]; omega)⟩
    obtain ⟨z, hz⟩ := hq
    have e2 := ncs_get hz (k % 8) (by omega)
    rw [show k / 8 * 8 + k % 8 = k by omega] at e2
    rw [e2]
    have e3 : (cur.setIfInBounds (i * 8 + j) v).toList[k]? = if i * 8 + j = k then some v else cur.toList[k]? := by
      rw [Array.getElem?_toList, Array.getElem?_setIfInBounds]
      split
      · rename_i e; subst e; simp
      · simp
    rw [e3]
    by_cases hki : k / 8 = i
    · rw [hki, set_here hx] at hz
      cases hz
      have e4 : cur.toList[k]? = (nc1 x)[k % 8]? := by
        have := ncs_get hx (k % 8) (by omega)
        rw [← hki, show k / 8 * 8 + k % 8 = k by omega, ← h4, List.getElem?_take_of_lt hk] at this
        exact this
      rw [← hv, e4]
      by_cases hkj : k % 8 = j
      · rw [if_pos (by omega), hkj, List.getElem?_set_self (by exact hj)]
      · rw [if_neg (by omega), List.getElem?_set_ne (fun e => hkj e.symm)]
    · rw [set_there hki] at hz
      rw [if_neg (by omega)]
      have := ncs_get hz (k % 8) (by omega)
      rw [show k / 8 * 8 + k % 8 = k by omega, ← h4, List.getElem?_take_of_lt hk] at this
      exact this
  · rw [List.getElem?_eq_none (by simp; omega), List.getElem?_eq_none (by rw [length_ncs, List.length_set]; omega)]
/-- All cells of a node are written. -/
theorem NodesIn.put8 {w : World} {g cap : Nat} {N : List Nd} (h : NodesIn w g cap N) {i : Nat} {x y : Nd} (hx : N[i]? = some x) :
    NodesIn ((((((((w.setCell ⟨g, i * 8, none⟩ (.int .i64 y.s.f)).setCell ⟨g, i * 8 + 1, none⟩ (.int .i64 y.s.t)).setCell ⟨g, i * 8 + 2, none⟩ (.int .i64 y.s.i)).setCell ⟨g, i * 8 + 3, none⟩ (.int .i64 y.l)).setCell ⟨g, i * 8 + 4, none⟩ (.int .i64 y.r)).setCell ⟨g, i * 8 + 5, none⟩ (.int .i64 y.h)).setCell ⟨g, i * 8 + 6, none⟩ (.int .i64 y.fi)).setCell ⟨g, i * 8 + 7, none⟩ (.int .i64 y.la)) g cap (N.set i y) := by
  have a0 := h.put (j := 0) (y := { x with s := { x.s with f := y.s.f } }) hx (by decide) (v := .int .i64 y.s.f) rfl
  have a1 := a0.put (j := 1) (y := { x with s := ⟨y.s.f, y.s.t, x.s.i⟩ }) (set_here hx _) (by decide) (v := .int .i64 y.s.t) rfl
  have a2 := a1.put (j := 2) (y := { x with s := y.s }) (set_here (set_here hx _) _) (by decide) (v := .int .i64 y.s.i) rfl
  have a3 := a2.put (j := 3) (y := { x with s := y.s, l := y.l }) (set_here (set_here (set_here hx _) _) _) (by decide) (v := .int .i64 y.l) rfl
  have a4 := a3.put (j := 4) (y := { x with s := y.s, l := y.l, r := y.r }) (set_here (set_here (set_here (set_here hx _) _) _) _) (by decide) (v := .int .i64 y.r) rfl
  have a5 := a4.put (j := 5) (y := { x with s := y.s, l := y.l, r := y.r, h := y.h }) (set_here (set_here (set_here (set_here (set_here hx _) _) _) _) _) (by decide) (v := .int .i64 y.h) rfl
  have a6 := a5.put (j := 6) (y := { x with s := y.s, l := y.l, r := y.r, h := y.h, fi := y.fi }) (set_here (set_here (set_here (set_here (set_here (set_here hx _) _) _) _) _) _) (by decide) (v := .int .i64 y.fi) rfl
  have a7 := a6.put (j := 7) (y := y) (set_here (set_here (set_here (set_here (set_here (set_here (set_here hx _) _) _) _) _) _) _) (by decide) (v := .int .i64 y.la) rfl
  simpa only [List.set_set, Nat.add_zero] using a7
theorem same8 {S : Nat → Prop} {w W : World} (k : Same S w W) {g : Nat} (hg : w.heap.size ≤ g ∨ S g) (o0 o1 o2 o3 o4 o5 o6 o7 : Nat) (v0 v1 v2 v3 v4 v5 v6 v7 : Value) :
    Same S w ((((((((W.setCell ⟨g, o0, none⟩ v0).setCell ⟨g, o1, none⟩ v1).setCell ⟨g, o2, none⟩ v2).setCell ⟨g, o3, none⟩ v3).setCell ⟨g, o4, none⟩ v4).setCell ⟨g, o5, none⟩ v5).setCell ⟨g, o6, none⟩ v6).setCell ⟨g, o7, none⟩ v7) :=
  Same.setCell (Same.setCell (Same.setCell (Same.setCell (Same.setCell (Same.setCell (Same.setCell (Same.setCell k ⟨g, o0, none⟩ hg v0) ⟨g, o1, none⟩ hg v1) ⟨g, o2, none⟩ hg v2) ⟨g, o3, none⟩ hg v3) ⟨g, o4, none⟩ hg v4) ⟨g, o5, none⟩ hg v5) ⟨g, o6, none⟩ hg v6) ⟨g, o7, none⟩ hg v7
/-- A forest's own cells and its list of nodes. -/
structure Ar (w : World) (fb nb cap fr : Nat) (mv : Value) (c e : Int) (N : List Nd) : Prop where
  obj : w.heap[fb]? = some (.cells #[.slice (some ⟨nb, 0, none⟩) N.length cap, .int .i64 fr, mv, .int .i64 c, .int .i64 e] 55 (0, 0))
  nodes : NodesIn w nb cap N
theorem Ar.ne {w : World} {fb nb cap fr : Nat} {mv : Value} {c e : Int} {N : List Nd} (h : Ar w fb nb cap fr mv c e N) : fb ≠ nb := fun x => by
  obtain ⟨cur, hg, -⟩ := h.nodes
  have := h.obj
  rw [x, hg] at this
  simp at this
theorem Ar.cells {w : World} {fb nb cap fr : Nat} {mv : Value} {c e : Int} {N : List Nd} (h : Ar w fb nb cap fr mv c e N) :
    (w.cell? ⟨fb, 0, none⟩ = some (.slice (some ⟨nb, 0, none⟩) N.length cap) ∧ w.cell? ⟨fb, 1, none⟩ = some (.int .i64 fr) ∧ w.cell? ⟨fb, 2, none⟩ = some mv ∧ w.cell? ⟨fb, 3, none⟩ = some (.int .i64 c) ∧ w.cell? ⟨fb, 4, none⟩ = some (.int .i64 e)) ∧ fb < w.heap.size ∧ nb < w.heap.size :=
  ⟨⟨(cell_of h.obj 0).trans rfl, (cell_of h.obj 1).trans rfl, (cell_of h.obj 2).trans rfl, (cell_of h.obj 3).trans rfl, (cell_of h.obj 4).trans rfl⟩, lt_of_heap h.obj, by obtain ⟨cur, hg, -⟩ := h.nodes; exact lt_of_heap hg⟩
theorem Ar.unfrozen {w : World} {fb nb cap fr : Nat} {mv : Value} {c e : Int} {N : List Nd} (h : Ar w fb nb cap fr mv c e N) (o : Nat) : w.frozen? ⟨fb, o, none⟩ = false := frozen_of h.obj o
/-- What a node's cells hold. -/
structure NdAt (w : World) (nb i : Nat) (x : Nd) : Prop where
  c0 : w.cell? ⟨nb, i * 8, none⟩ = some (.int .i64 x.s.f)
  c1 : w.cell? ⟨nb, i * 8 + 1, none⟩ = some (.int .i64 x.s.t)
  c2 : w.cell? ⟨nb, i * 8 + 2, none⟩ = some (.int .i64 x.s.i)
  c3 : w.cell? ⟨nb, i * 8 + 3, none⟩ = some (.int .i64 x.l)
  c4 : w.cell? ⟨nb, i * 8 + 4, none⟩ = some (.int .i64 x.r)
  c5 : w.cell? ⟨nb, i * 8 + 5, none⟩ = some (.int .i64 x.h)
  c6 : w.cell? ⟨nb, i * 8 + 6, none⟩ = some (.int .i64 x.fi)
  c7 : w.cell? ⟨nb, i * 8 + 7, none⟩ = some (.int .i64 x.la)
theorem Ar.node {w : World} {fb nb cap fr : Nat} {mv : Value} {c e : Int} {N : List Nd} (h : Ar w fb nb cap fr mv c e N) {i : Nat} {x : Nd} (hx : N[i]? = some x) : NdAt w nb i x ∧ i < N.length :=
  ⟨⟨h.nodes.cell hx 0 (by decide), h.nodes.cell hx 1 (by decide), h.nodes.cell hx 2 (by decide), h.nodes.cell hx 3 (by decide), h.nodes.cell hx 4 (by decide), h.nodes.cell hx 5 (by decide), h.nodes.cell hx 6 (by decide), h.nodes.cell hx 7 (by decide)⟩, (List.getElem?_eq_some_iff.1 hx).1⟩
theorem Ar.kept {S : Nat → Prop} {w w' : World} {fb nb cap fr : Nat} {mv : Value} {c e : Int} {N : List Nd} (h : Ar w fb nb cap fr mv c e N) (hs : Same S w w') (h1 : ¬ S fb) (h2 : ¬ S nb) : Ar w' fb nb cap fr mv c e N :=
  ⟨(hs.block _ (lt_of_heap h.obj) h1).trans h.obj, h.nodes.kept hs h2⟩
theorem Ar.on {w w' : World} {fb nb cap fr : Nat} {mv : Value} {c e : Int} {N : List Nd} (h : Ar w fb nb cap fr mv c e N) (k : Kept w w') : Ar w' fb nb cap fr mv c e N := h.kept k (fun x => x) (fun x => x)
/-- One cell of a node is written. -/
theorem Ar.put {w : World} {fb nb cap fr : Nat} {mv : Value} {c e : Int} {N : List Nd} (h : Ar w fb nb cap fr mv c e N) {i j : Nat} {x y : Nd} (hx : N[i]? = some x) (hj : j < 8) {v : Value} (hv : (nc1 x).set j v = nc1 y) : Ar (w.setCell ⟨nb, i * 8 + j, none⟩ v) fb nb cap fr mv c e (N.set i y) :=
  ⟨by rw [Below.heap_setCell _ _ _ _ h.ne, List.length_set]; exact h.obj, h.nodes.put hx hj hv⟩
theorem Ar.put8 {w : World} {fb nb cap fr : Nat} {mv : Value} {c e : Int} {N : List Nd} (h : Ar w fb nb cap fr mv c e N) {i : Nat} {x y : Nd} (hx : N[i]? = some x) :
    Ar ((((((((w.setCell ⟨nb, i * 8, none⟩ (.int .i64 y.s.f)).setCell ⟨nb, i * 8 + 1, none⟩ (.int .i64 y.s.t)).setCell ⟨nb, i * 8 + 2, none⟩ (.int .i64 y.s.i)).setCell ⟨nb, i * 8 + 3, none⟩ (.int .i64 y.l)).setCell ⟨nb, i * 8 + 4, none⟩ (.int .i64 y.r)).setCell ⟨nb, i * 8 + 5, none⟩ (.int .i64 y.h)).setCell ⟨nb, i * 8 + 6, none⟩ (.int .i64 y.fi)).setCell ⟨nb, i * 8 + 7, none⟩ (.int .i64 y.la)) fb nb cap fr mv c e (N.set i y) :=
  ⟨by rw [List.length_set]; exact ((same8 (S := fun k => k = nb) (Same.refl _ w) (.inr rfl) _ _ _ _ _ _ _ _ _ _ _ _ _ _ _ _).block fb (lt_of_heap h.obj) h.ne).trans h.obj, h.nodes.put8 hx⟩
/-- A number of the forest is written. -/
theorem Ar.setFr {w : World} {fb nb cap fr : Nat} {mv : Value} {c e : Int} {N : List Nd} (h : Ar w fb nb cap fr mv c e N) (f : Nat) : Ar (w.setCell ⟨fb, 1, none⟩ (.int .i64 f)) fb nb cap f mv c e N :=
  ⟨by simpa using setCell_at h.obj 1 (.int .i64 f), h.nodes.kept (S := fun k => k = fb) (Same.setCell (S := fun k => k = fb) (Same.refl _ w) ⟨fb, 1, none⟩ (.inr rfl) _) (fun x => h.ne x.symm)⟩
theorem Ar.setC {w : World} {fb nb cap fr : Nat} {mv : Value} {c e : Int} {N : List Nd} (h : Ar w fb nb cap fr mv c e N) (f : Int) : Ar (w.setCell ⟨fb, 3, none⟩ (.int .i64 f)) fb nb cap fr mv f e N :=
  ⟨by simpa using setCell_at h.obj 3 (.int .i64 f), h.nodes.kept (S := fun k => k = fb) (Same.setCell (S := fun k => k = fb) (Same.refl _ w) ⟨fb, 3, none⟩ (.inr rfl) _) (fun x => h.ne x.symm)⟩
theorem Ar.setE {w : World} {fb nb cap fr : Nat} {mv : Value} {c e : Int} {N : List Nd} (h : Ar w fb nb cap fr mv c e N) (f : Int) : Ar (w.setCell ⟨fb, 4, none⟩ (.int .i64 f)) fb nb cap fr mv c f N :=
  ⟨by simpa using setCell_at h.obj 4 (.int .i64 f), h.nodes.kept (S := fun k => k = fb) (Same.setCell (S := fun k => k = fb) (Same.refl _ w) ⟨fb, 4, none⟩ (.inr rfl) _) (fun x => h.ne x.symm)⟩
end Go.Proofs.Ytaiaahcblohknaa
