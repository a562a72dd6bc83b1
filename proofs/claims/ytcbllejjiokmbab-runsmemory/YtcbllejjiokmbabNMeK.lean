/- What is proved: five lists of rows of one's own and the list that holds them: what marking a row and a row more behind one of them leave; no condition. -/
import Derived.Test.YtcbllejjiokmbabNMeM
namespace Go.Proofs.Ytcbllejjiokmbab
open Go.RowKit

/-- A marked row. -/
def mkR (k : Int) : RwM := ⟨k, 0, 0, 0, 0, 0, ⟨#[]⟩⟩
def upd (X : Nat → List RwM) (I : Nat) (l : List RwM) : Nat → List RwM := fun i => if i = I then l else X i
/-- The five lists stand. -/
structure Ls (w wr : World) (gL : Nat) (G C : Nat → Nat) (n : Nat) (X : Nat → List RwM) : Prop where
  lst : wr.heap[gL]? = some (.cells #[.slice (some ⟨G 0, 0, none⟩) n (C 0), .slice (some ⟨G 1, 0, none⟩) n (C 1), .slice (some ⟨G 2, 0, none⟩) n (C 2), .slice (some ⟨G 3, 0, none⟩) n (C 3), .slice (some ⟨G 4, 0, none⟩) n (C 4)] 22 (0, 0))
  own : ∀ i, i < 5 → OwnR w.heap.size wr (.slice (some ⟨G i, 0, none⟩) n (C i)) (X i)
  ne : ∀ i j, i < 5 → j < 5 → G i = G j → i = j
  low : w.heap.size ≤ gL
  same : Same (fun k => w.heap.size ≤ k) w wr
theorem Ls.len {w wr : World} {gL : Nat} {G C : Nat → Nat} {n : Nat} {X : Nat → List RwM} (h : Ls w wr gL G C n X) {i : Nat} (hi : i < 5) : (X i).length = n := (h.own i hi).parts.1.symm
theorem Ls.neL {w wr : World} {gL : Nat} {G C : Nat → Nat} {n : Nat} {X : Nat → List RwM} (h : Ls w wr gL G C n X) {i : Nat} (hi : i < 5) : G i ≠ gL := by
  intro e
  obtain ⟨-, cur, -, hg, -⟩ := (h.own i hi).parts
  rw [e] at hg
  have := hg.symm.trans h.lst
  simp at this
theorem Ls.lt {w wr : World} {gL : Nat} {G C : Nat → Nat} {n : Nat} {X : Nat → List RwM} (h : Ls w wr gL G C n X) {i : Nat} (hi : i < 5) : w.heap.size ≤ G i ∧ G i < wr.heap.size := by
  obtain ⟨-, cur, hb, hg, -⟩ := (h.own i hi).parts
  exact ⟨hb, lt_of_heap hg⟩
theorem Ls.on {w wr w' : World} {gL : Nat} {G C : Nat → Nat} {n : Nat} {X : Nat → List RwM} (h : Ls w wr gL G C n X) (k : Kept wr w') : Ls w w' gL G C n X :=
  ⟨(k.block _ (lt_of_heap h.lst) (fun e => e)).trans h.lst, fun i hi => OwnR.kept (h.own i hi) k (fun _ _ e => e), h.ne, h.low, h.same.trans' (k.to _)⟩
/-- One of the lists turned in its own block. -/
theorem Ls.turn {w wr w' : World} {gL : Nat} {G C : Nat → Nat} {n : Nat} {X : Nat → List RwM} (h : Ls w wr gL G C n X) {I : Nat} (hI : I < 5) (k : Same (fun b => b = G I) wr w') {l : List RwM} (o : OwnR w.heap.size w' (.slice (some ⟨G I, 0, none⟩) n (C I)) l) : Ls w w' gL G C n (upd X I l) := by
  refine ⟨(k.block _ (lt_of_heap h.lst) (fun e => h.neL hI e.symm)).trans h.lst, fun i hi => ?_, h.ne, h.low, h.same.trans k fun b _ e => by have := (h.lt hI).1; omega⟩
  unfold upd
  by_cases e : i = I
  · subst e
    rw [if_pos rfl]
    exact o
  · rw [if_neg e]
    exact OwnR.kept (h.own i hi) k fun b hb e2 => by
      simp [Value.ownBlock] at hb
      exact e (h.ne i I hi hI (hb.trans e2))
/-- A block apart of all turned. -/
theorem Ls.far {w wr w' : World} {gL : Nat} {G C : Nat → Nat} {n : Nat} {X : Nat → List RwM} (h : Ls w wr gL G C n X) {g : Nat} (hg : ∀ i, i < 5 → g ≠ G i) (hL : g ≠ gL) (hw : w.heap.size ≤ g) (k : Same (fun b => b = g) wr w') : Ls w w' gL G C n X :=
  ⟨(k.block _ (lt_of_heap h.lst) (fun e => hL e.symm)).trans h.lst, fun i hi => OwnR.kept (h.own i hi) k fun b hb e => by
    simp [Value.ownBlock] at hb
    exact hg i hi (e.symm.trans hb.symm), h.ne, h.low, h.same.trans k fun b _ e => by omega⟩
theorem upd_same {X : Nat → List RwM} (I : Nat) : upd X I (X I) = X := by
  funext i
  unfold upd
  by_cases e : i = I
  · subst e; rw [if_pos rfl]
  · rw [if_neg e]
/-- The list that grows: in its old block, or in one apart of all. -/
structure Gr (w wr : World) (gL : Nat) (G C : Nat → Nat) (n : Nat) (X : Nat → List RwM) (I : Nat) (v : Value) (T : List RwM) : Prop where
  ls : Ls w wr gL G C n X
  ex : ∃ g c, v = .slice (some ⟨g, 0, none⟩) (X I ++ T).length c ∧ OwnR w.heap.size wr (.slice (some ⟨g, 0, none⟩) (X I ++ T).length c) (X I ++ T) ∧ ((g = G I ∧ c = C I) ∨ ((∀ i, i < 5 → g ≠ G i) ∧ g ≠ gL))
theorem Gr.more {w wr : World} {gL : Nat} {G C : Nat → Nat} {n : Nat} {X : Nat → List RwM} {I : Nat} {v : Value} {T : List RwM} (h : Gr w wr gL G C n X I v T) (hI : I < 5) (r : RwM) (hn : (X I ++ T).length + 1 ≤ 2199023255552) (ty : TypeId) :
    ∃ v' w', (Builtin.append_ #[22, 22] ty #[v, .slice (some ⟨wr.heap.size, 0, none⟩) 1 1]).run Try.prog (wr.alloc (.cells #[.int .i64 r.kind, .int .i64 r.time, .int .i64 r.seq, .int .i64 r.index, .int .i64 r.frm, .int .i64 r.til, .string r.body] 25)) = .ok v' w' ∧ Gr w w' gL G C n X I v' (T ++ [r]) := by
  obtain ⟨g, c, rfl, o, hg⟩ := h.ex
  obtain ⟨v', w', hr, g', c', rfl, o', hk⟩ := app_row_more r o hn h.ls.same.size ty
  have el : (X I ++ T).length + 1 = (X I ++ (T ++ [r])).length := by simp; omega
  rw [List.append_assoc] at o'
  rw [el] at o'
  refine ⟨_, w', hr, ?_, g', c', by rw [el], o', ?_⟩
  · rcases hk with ⟨rfl, rfl, k⟩ | ⟨-, k⟩
    · rcases hg with ⟨rfl, rfl⟩ | ⟨h1, h2⟩
      · have op := OwnR.pre o'
        rw [h.ls.len hI] at op
        have := h.ls.turn hI k op
        rwa [upd_same] at this
      · exact h.ls.far h1 h2 (by obtain ⟨-, cur, hb, -⟩ := o.parts; exact hb) k
    · exact h.ls.on k
  · rcases hk with ⟨rfl, rfl, -⟩ | ⟨hs, -⟩
    · exact hg
    · exact .inr ⟨fun i hi e => by have := (h.ls.lt hi).2; omega, fun e => by have := lt_of_heap h.ls.lst; omega⟩
/-- Marked so far: all of the lists ahead of I, and k rows of I. -/
structure Mkd (w wr : World) (gL : Nat) (G C : Nat → Nat) (n : Nat) (I k : Nat) (X : Nat → List RwM) : Prop where
  ls : Ls w wr gL G C n X
  done : ∀ i, i < I → X i = List.replicate n (mkR (10 + i))
  part : ∀ j, j < k → (X I)[j]? = some (mkR (10 + I))
theorem Mkd.more {w wr w' : World} {gL : Nat} {G C : Nat → Nat} {n : Nat} {I k : Nat} {X : Nat → List RwM} (h : Mkd w wr gL G C n I k X) (hI : I < 5) (hk : k < n) (s : Same (fun b => b = G I) wr w') (o : OwnR w.heap.size w' (.slice (some ⟨G I, 0, none⟩) n (C I)) ((X I).set k (mkR (10 + I)))) : Mkd w w' gL G C n I (k + 1) (upd X I ((X I).set k (mkR (10 + I)))) := by
  refine ⟨h.ls.turn hI s o, fun i hi => ?_, fun j hj => ?_⟩
  · unfold upd
    rw [if_neg (by omega)]
    exact h.done i hi
  · unfold upd
    rw [if_pos rfl, List.getElem?_set]
    have hl := h.ls.len hI
    by_cases e : k = j
    · subst e
      rw [if_pos rfl, if_pos (by omega)]
    · rw [if_neg e]
      exact h.part j (by omega)
theorem Mkd.put {w wr : World} {gL : Nat} {G C : Nat → Nat} {n : Nat} {I k : Nat} {X : Nat → List RwM} (h : Mkd w wr gL G C n I k X) (hI : I < 5) (hk : k < n) : Mkd w (((((((wr.setCell ⟨(G I), k * 7, none⟩ (.int .i64 (10 + (I : Int)))).setCell ⟨(G I), k * 7 + 1, none⟩ (.int .i64 0)).setCell ⟨(G I), k * 7 + 2, none⟩ (.int .i64 0)).setCell ⟨(G I), k * 7 + 3, none⟩ (.int .i64 0)).setCell ⟨(G I), k * 7 + 4, none⟩ (.int .i64 0)).setCell ⟨(G I), k * 7 + 5, none⟩ (.int .i64 0)).setCell ⟨(G I), k * 7 + 6, none⟩ (.string ⟨#[]⟩)) gL G C n I (k + 1) (upd X I ((X I).set k (mkR (10 + I)))) :=
  h.more hI hk (Same.setRow wr (G I) k _ _ _ _ _ _ _) (OwnR.set (h.ls.own I hI) (by rw [h.ls.len hI]; exact hk) (mkR (10 + I)))
theorem Mkd.next {w wr : World} {gL : Nat} {G C : Nat → Nat} {n : Nat} {I : Nat} {X : Nat → List RwM} (h : Mkd w wr gL G C n I n X) (hI : I < 5) : Mkd w wr gL G C n (I + 1) 0 X := by
  refine ⟨h.ls, fun i hi => ?_, fun j hj => by omega⟩
  by_cases e : i = I
  · subst e
    refine List.ext_getElem? fun j => ?_
    have hl := h.ls.len hI
    by_cases hj : j < n
    · rw [h.part j hj, List.getElem?_replicate, if_pos hj]
    · rw [List.getElem?_eq_none (by omega), List.getElem?_eq_none (by simp; omega)]
  · exact h.done i (by omega)
theorem Ls.cell {w wr : World} {gL : Nat} {G C : Nat → Nat} {n : Nat} {X : Nat → List RwM} (h : Ls w wr gL G C n X) {i : Nat} (hi : i < 5) : wr.cell? ⟨gL, i, none⟩ = some (.slice (some ⟨G i, 0, none⟩) n (C i)) := by
  rw [cell_of h.lst]
  match i, hi with
  | 0, _ => rfl
  | 1, _ => rfl
  | 2, _ => rfl
  | 3, _ => rfl
  | 4, _ => rfl
def pick5 (a b c d e : Nat) : Nat → Nat
  | 0 => a
  | 1 => b
  | 2 => c
  | 3 => d
  | _ => e
/-- The five lists just laid into one. -/
theorem ls_new {w W : World} {g0 g1 g2 g3 g4 c0 c1 c2 c3 c4 n : Nat} {S l : List RwM} (o0 : OwnR w.heap.size W (.slice (some ⟨g0, 0, none⟩) n c0) S) (o1 : OwnR w.heap.size W (.slice (some ⟨g1, 0, none⟩) n c1) S) (o2 : OwnR w.heap.size W (.slice (some ⟨g2, 0, none⟩) n c2) S) (o3 : OwnR w.heap.size W (.slice (some ⟨g3, 0, none⟩) n c3) S) (o4 : OwnR w.heap.size W (.slice (some ⟨g4, 0, none⟩) n c4) l)
    (h40 : g4 < g0) (h01 : g0 < g1) (h12 : g1 < g2) (h23 : g2 < g3) (hs : Same (fun k => w.heap.size ≤ k) w W) :
    Mkd w (W.alloc (.cells #[.slice (some ⟨g0, 0, none⟩) n c0, .slice (some ⟨g1, 0, none⟩) n c1, .slice (some ⟨g2, 0, none⟩) n c2, .slice (some ⟨g3, 0, none⟩) n c3, .slice (some ⟨g4, 0, none⟩) n c4] 22)) W.heap.size (pick5 g0 g1 g2 g3 g4) (pick5 c0 c1 c2 c3 c4) n 0 0 (fun i => if i = 4 then l else S) := by
  have k : Kept W (W.alloc (.cells #[.slice (some ⟨g0, 0, none⟩) n c0, .slice (some ⟨g1, 0, none⟩) n c1, .slice (some ⟨g2, 0, none⟩) n c2, .slice (some ⟨g3, 0, none⟩) n c3, .slice (some ⟨g4, 0, none⟩) n c4] 22)) := (Same.refl _ _).alloc _
  refine ⟨⟨heap_new _ _, fun i hi => ?_, fun i j hi hj e => ?_, hs.size, hs.trans' (k.to _)⟩, fun i hi => by omega, fun j hj => by omega⟩
  · match i, hi with
    | 0, _ => exact OwnR.kept o0 k (fun _ _ e => e)
    | 1, _ => exact OwnR.kept o1 k (fun _ _ e => e)
    | 2, _ => exact OwnR.kept o2 k (fun _ _ e => e)
    | 3, _ => exact OwnR.kept o3 k (fun _ _ e => e)
    | 4, _ => exact OwnR.kept o4 k (fun _ _ e => e)
  · match i, hi, j, hj with
    | 0, _, 0, _ => rfl
    | 0, _, 1, _ => simp only [pick5] at e; omega
    | 0, _, 2, _ => simp only [pick5] at e; omega
    | 0, _, 3, _ => simp only [pick5] at e; omega
    | 0, _, 4, _ => simp only [pick5] at e; omega
    | 1, _, 0, _ => simp only [pick5] at e; omega
    | 1, _, 1, _ => rfl
    | 1, _, 2, _ => simp only [pick5] at e; omega
    | 1, _, 3, _ => simp only [pick5] at e; omega
    | 1, _, 4, _ => simp only [pick5] at e; omega
    | 2, _, 0, _ => simp only [pick5] at e; omega
    | 2, _, 1, _ => simp only [pick5] at e; omega
    | 2, _, 2, _ => rfl
    | 2, _, 3, _ => simp only [pick5] at e; omega
    | 2, _, 4, _ => simp only [pick5] at e; omega
    | 3, _, 0, _ => simp only [pick5] at e; omega
    | 3, _, 1, _ => simp only [pick5] at e; omega
    | 3, _, 2, _ => simp only [pick5] at e; omega
    | 3, _, 3, _ => rfl
    | 3, _, 4, _ => simp only [pick5] at e; omega
    | 4, _, 0, _ => simp only [pick5] at e; omega
    | 4, _, 1, _ => simp only [pick5] at e; omega
    | 4, _, 2, _ => simp only [pick5] at e; omega
    | 4, _, 3, _ => simp only [pick5] at e; omega
    | 4, _, 4, _ => rfl
end Go.Proofs.Ytcbllejjiokmbab
