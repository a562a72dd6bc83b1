/- What is proved: small laws for answers that are marked and grown: a row or a number written anew, two rows or two numbers more behind a list of one's own; the bounds that a machine's memory sets. -/
import Derived.Test.YtolaeiagfnhllaaTMrg
import Derived.Test.YtolaeiagfnhllaaNMeM
import Derived.Test.YtolaeiagfnhllaaNOpen
import Derived.Test.YtolaeiagfnhllaaQValR
namespace Go.Proofs.Ytolaeiagfnhllaa
open Go.RowKit

theorem OwnR.some_ {base : Nat} {w : World} {v : Value} {l : List RwM} (h : OwnR base w v l) (h0 : 0 < l.length) : ∃ g cap, v = .slice (some ⟨g, 0, none⟩) l.length cap ∧ base ≤ g ∧ g < w.heap.size := by
  rcases h.2 with ⟨rfl, hn⟩ | ⟨g, cap, cur, rfl, hb, hg, _⟩
  · omega
  · exact ⟨g, cap, rfl, hb, lt_of_heap hg⟩
theorem OwnZ.some_ {base : Nat} {w : World} {v : Value} {l : List Int} (h : OwnZ base w v l) (h0 : 0 < l.length) : ∃ g cap, v = .slice (some ⟨g, 0, none⟩) l.length cap ∧ base ≤ g ∧ g < w.heap.size := by
  rcases h.2 with ⟨rfl, hn⟩ | ⟨g, cap, cur, rfl, hb, hg, _⟩
  · omega
  · exact ⟨g, cap, rfl, hb, lt_of_heap hg⟩
theorem two_rows (w : World) (r s : RwM) : RowsAt (w.alloc (.cells #[.int .i64 r.kind, .int .i64 r.time, .int .i64 r.seq, .int .i64 r.index, .int .i64 r.frm, .int .i64 r.til, .string r.body, .int .i64 s.kind, .int .i64 s.time, .int .i64 s.seq, .int .i64 s.index, .int .i64 s.frm, .int .i64 s.til, .string s.body] 32)) (some ⟨w.heap.size, 0, none⟩) [r, s] := fun i x hx => by
  have hc := heap_new w (.cells #[.int .i64 r.kind, .int .i64 r.time, .int .i64 r.seq, .int .i64 r.index, .int .i64 r.frm, .int .i64 r.til, .string r.body, .int .i64 s.kind, .int .i64 s.time, .int .i64 s.seq, .int .i64 s.index, .int .i64 s.frm, .int .i64 s.til, .string s.body] 32)
  refine ⟨_, 0, rfl, lt_of_heap hc, ?_⟩
  match i, hx with
  | 0, hx =>
    cases hx
    exact ⟨(cell_of hc 0).trans rfl, (cell_of hc 1).trans rfl, (cell_of hc 2).trans rfl, (cell_of hc 3).trans rfl, (cell_of hc 4).trans rfl, (cell_of hc 5).trans rfl, (cell_of hc 6).trans rfl⟩
  | 1, hx =>
    cases hx
    exact ⟨(cell_of hc 7).trans rfl, (cell_of hc 8).trans rfl, (cell_of hc 9).trans rfl, (cell_of hc 10).trans rfl, (cell_of hc 11).trans rfl, (cell_of hc 12).trans rfl, (cell_of hc 13).trans rfl⟩
  | i + 2, hx => simp at hx
theorem app_two {w : World} {base : Nat} {v : Value} {xs : List RwM} (r s : RwM) (hown : OwnR base w v xs) (hb : xs.length + 2 ≤ 2199023255552) (hbase : base ≤ w.heap.size) (ty : TypeId) :
    ∃ v' w', (Builtin.append_ #[39, 39] ty #[v, .slice (some ⟨w.heap.size, 0, none⟩) 2 2]).run Try.prog (w.alloc (.cells #[.int .i64 r.kind, .int .i64 r.time, .int .i64 r.seq, .int .i64 r.index, .int .i64 r.frm, .int .i64 r.til, .string r.body, .int .i64 s.kind, .int .i64 s.time, .int .i64 s.seq, .int .i64 s.index, .int .i64 s.frm, .int .i64 s.til, .string s.body] 32)) = .ok v' w' ∧ OwnR base w' v' (xs ++ [r, s]) ∧ Same (fun k => v.ownBlock = some k) w w' ∧ ∀ k, v'.ownBlock = some k → v.ownBlock = some k ∨ w.heap.size ≤ k := by
  have k0 : Kept w (w.alloc (.cells #[.int .i64 r.kind, .int .i64 r.time, .int .i64 r.seq, .int .i64 r.index, .int .i64 r.frm, .int .i64 r.til, .string r.body, .int .i64 s.kind, .int .i64 s.time, .int .i64 s.seq, .int .i64 s.index, .int .i64 s.frm, .int .i64 s.til, .string s.body] 32)) := (Same.refl _ w).alloc _
  obtain ⟨v', w', h1, h2, h3, h4⟩ := app_rows Try.underlying39 Try.infoRow (OwnR.kept hown k0 (fun _ _ e => e)) (cap := 2) (two_rows w r s) (fun e => by cases e) (by simpa using hb) (Nat.le_trans hbase k0.size) ty
  exact ⟨v', w', h1, h2, (k0.to _).trans' h3, fun k hk => (h4 k hk).imp id fun e => Nat.le_trans k0.size e⟩
theorem app_z2 {w : World} {base : Nat} {v : Value} {L : List Int} (x y : Int) (hown : OwnZ base w v L) (hb : L.length + 2 ≤ 4398046511104) (hbase : base ≤ w.heap.size) (ty : TypeId) :
    ∃ v' w', (Builtin.append_ #[49, 49] ty #[v, .slice (some ⟨w.heap.size, 0, none⟩) 2 2]).run Try.prog (w.alloc (.cells #[.int .i64 x, .int .i64 y] 3)) = .ok v' w' ∧ OwnZ base w' v' (L ++ [x, y]) ∧ Same (fun k => v.ownBlock = some k) w w' := by
  obtain ⟨i0, hi0, hz0, hz1, hz2⟩ := info_parts Try.infoInt11
  have k0 : Kept w (w.alloc (.cells #[.int .i64 x, .int .i64 y] 3 (0, 0))) := (Same.refl _ w).alloc _
  have ho := OwnZ.kept hown k0 (fun _ _ e => e)
  have hcell := heap_new w (.cells #[.int .i64 x, .int .i64 y] 3 (0, 0))
  obtain ⟨v', w', hr, r1, r2, _, r3⟩ := run_append_own_at (P := Try.prog) (w := w.alloc (.cells #[.int .i64 x, .int .i64 y] 3)) base 49 ty 3 i0 _ 1 8 Try.underlying49 hi0 hz0 hz1 hz2 rfl (by decide) v L.length _ ho ⟨w.heap.size, 0, none⟩ 2 2 (inz [x, y]) rfl
    (fun j u hu => by
      rw [Addr.add_lit, Nat.zero_add, cell_of hcell]
      simpa [inz] using hu) (inz_one _) (by unfold maxLen; omega) (by omega) (by simp [World.size_alloc]; omega)
  rw [← inz_append] at r1
  exact ⟨v', w', hr, by rw [OwnZ, List.length_append]; exact r1, (Kept.to k0 _).trans' (Same.of_grown r2 (fun k e => e))⟩
theorem OwnZ.parts {base : Nat} {w : World} {g n cap : Nat} {l : List Int} (h : OwnZ base w (.slice (some ⟨g, 0, none⟩) n cap) l) : n = l.length ∧ ∃ cur, base ≤ g ∧ w.heap[g]? = some (.cells cur 3 (0, 0)) ∧ l.length ≤ cap ∧ cap ≤ maxLen ∧ cur.size = cap * 1 ∧ cur.toList.take (l.length * 1) = inz l := by
  rcases h.2 with ⟨h', _⟩ | ⟨g', cap', cur, h', hb, hg, h1, h2, h3, h4⟩
  · cases h'
  · simp only [Value.slice.injEq, Option.some.injEq, Addr.mk.injEq, and_true] at h'
    obtain ⟨rfl, rfl, rfl⟩ := h'
    exact ⟨rfl, cur, hb, hg, h1, h2, h3, h4⟩
theorem OwnZ.set {base : Nat} {w : World} {g n cap : Nat} {l : List Int} (h : OwnZ base w (.slice (some ⟨g, 0, none⟩) n cap) l) (k : Nat) (x : Int) : OwnZ base (w.setCell ⟨g, k, none⟩ (.int .i64 x)) (.slice (some ⟨g, 0, none⟩) n cap) (l.set k x) := by
  obtain ⟨rfl, cur, hb, hg, h1, h2, h3, h4⟩ := h.parts
  refine ⟨by rw [length_inz, List.length_set]; omega, .inr ⟨g, cap, _, by rw [List.length_set], hb, setCell_at hg _ _, by rw [List.length_set]; exact h1, h2, by simpa using h3, ?_⟩⟩
  rw [List.length_set]
  simp only [Array.toList_setIfInBounds, List.take_set]
  rw [h4, inz_set]
/-- A row, and the rows ahead of q, marked. -/
def mrk (k : Int) : RwM := ⟨k, 0, 0, 0, 0, 0, ⟨#[]⟩⟩
structure MkR (W wr : World) (base g n c q : Nat) : Prop where
  ex : ∃ X, OwnR base wr (.slice (some ⟨g, 0, none⟩) n c) X ∧ ∀ j, j < q → X[j]? = some (mrk 71)
  same : Same (fun k => k = g) W wr
structure MkZ (W wr : World) (base g n c q : Nat) : Prop where
  ex : ∃ X, OwnZ base wr (.slice (some ⟨g, 0, none⟩) n c) X ∧ ∀ j, j < q → X[j]? = some 40
  same : Same (fun k => k = g) W wr
theorem set_mark {α : Type} {X : List α} {q n : Nat} {m : α} (hn : n = X.length) (hq : q < n) (h : ∀ j, j < q → X[j]? = some m) : ∀ j, j < q + 1 → (X.set q m)[j]? = some m := fun j hj => by
  rw [List.getElem?_set]
  by_cases e : q = j
  · subst e
    rw [if_pos rfl, if_pos (by omega)]
  · rw [if_neg e]
    exact h j (by omega)
theorem MkR.put {W wr : World} {base g n c q : Nat} (h : MkR W wr base g n c q) (hq : q < n) : MkR W (((((((wr.setCell ⟨g, q * 7, none⟩ (.int .i64 71)).setCell ⟨g, q * 7 + 1, none⟩ (.int .i64 0)).setCell ⟨g, q * 7 + 2, none⟩ (.int .i64 0)).setCell ⟨g, q * 7 + 3, none⟩ (.int .i64 0)).setCell ⟨g, q * 7 + 4, none⟩ (.int .i64 0)).setCell ⟨g, q * 7 + 5, none⟩ (.int .i64 0)).setCell ⟨g, q * 7 + 6, none⟩ (.string ⟨#[]⟩)) base g n c (q + 1) := by
  obtain ⟨X, h1, h2⟩ := h.ex
  exact ⟨⟨_, OwnR.set h1 (by rw [← h1.parts.1]; exact hq) (mrk 71), set_mark h1.parts.1 hq h2⟩, h.same.trans' (Same.setRow wr g q _ _ _ _ _ _ _)⟩
theorem MkZ.put {W wr : World} {base g n c q : Nat} (h : MkZ W wr base g n c q) (hq : q < n) : MkZ W (wr.setCell ⟨g, q, none⟩ (.int .i64 40)) base g n c (q + 1) := by
  obtain ⟨X, h1, h2⟩ := h.ex
  exact ⟨⟨_, OwnZ.set h1 q 40, set_mark h1.parts.1 hq h2⟩, h.same.trans' ((Same.refl (fun k => k = g) wr).setCell ⟨g, q, none⟩ (.inr rfl) _)⟩
theorem MkZ.cell {W wr : World} {base g n c q : Nat} (h : MkZ W wr base g n c q) {k : Nat} (hk : k < n) : (∃ v, wr.cell? ⟨g, k, none⟩ = some v) ∧ wr.frozen? ⟨g, k, none⟩ = false ∧ g < wr.heap.size := by
  obtain ⟨X, h1, -⟩ := h.ex
  obtain ⟨e, cur, hb, hg, h2, h3, h4, h5⟩ := h1.parts
  exact ⟨⟨cur[k]'(by omega), by rw [cell_of hg]; exact Array.getElem?_eq_getElem (by omega)⟩, frozen_of hg _, lt_of_heap hg⟩
theorem all_marked {α : Type} {X : List α} {n : Nat} {m : α} (hn : n = X.length) (h : ∀ j, j < n → X[j]? = some m) : X = List.replicate n m := by
  refine List.ext_getElem? fun j => ?_
  by_cases hj : j < n
  · rw [h j hj, List.getElem?_replicate, if_pos hj]
  · rw [List.getElem?_eq_none (by omega), List.getElem?_eq_none (by simp; omega)]
theorem five_at {q : Nat} (h : q < 5) : ([0, 1, 2, 3, 4] : List Int).getD q 0 = (q : Int) := by
  match q, h with
  | 0, _ => rfl
  | 1, _ => rfl
  | 2, _ => rfl
  | 3, _ => rfl
  | 4, _ => rfl
theorem forty_at {q : Nat} (h : q < 5) : (List.replicate 5 (40 : Int) ++ [41, 41]).getD q 0 = 40 := by
  match q, h with
  | 0, _ => rfl
  | 1, _ => rfl
  | 2, _ => rfl
  | 3, _ => rfl
  | 4, _ => rfl
/-- One list, in a table of its own. -/
theorem one_list {w : World} {a : Option Addr} {c : Nat} {l : List RwM} (h : RowsAt w a l) : ListsAt (w.alloc (.cells #[.slice a l.length c] 39)) (some ⟨w.heap.size, 0, none⟩) [l] := fun i x hx => by
  have hc := heap_new w (.cells #[.slice a l.length c] 39)
  have k : Kept w (w.alloc (.cells #[.slice a l.length c] 39)) := (Same.refl _ w).alloc _
  match i, hx with
  | 0, hx =>
    cases hx
    exact ⟨_, 0, a, c, rfl, lt_of_heap hc, (cell_of hc 0).trans rfl, h.on k⟩
  | i + 1, hx => simp at hx
theorem merge_one {W : World} {T n cT : Nat} {l : List RwM} (hl : ListsAt W (some ⟨T, 0, none⟩) [l]) (hk : lookF 1 none l = 0) (h0 : 0 < l.length) (hn : l.length ≤ 2199023255552) (en : n = l.length) : Calls Try.prog 14 #[.int .i64 1, .slice (some ⟨T, 0, none⟩) 1 cT] W fun e w' => ∃ g c, e = .returned (.tuple #[.slice (some ⟨g, 0, none⟩) n c, .int .i64 0]) ∧ W.heap.size ≤ g ∧ OwnR W.heap.size w' (.slice (some ⟨g, 0, none⟩) n c) l ∧ Kept W w' := by
  have hf : [l].flatten = l := by simp
  have hm := merge11_ok (order := 1) (.inl rfl) (cap := cT) (L := [l]) (w := W) (Nat.le_refl _) (by show 1 ≤ 64; decide) hl (fun x hx => by rw [List.mem_singleton] at hx; subst hx; exact hk) (by rw [hf]; exact hn)
  rw [hf, srt_of_pw (lookF_ok l none hk).2.1] at hm
  refine Calls.mono hm fun _ w' ⟨v, h1, h2, h3⟩ => ?_
  obtain ⟨g, c, rfl, hg, -⟩ := h2.some_ h0
  rw [← en] at h1 h2
  exact ⟨g, c, h1, hg, h2, h3⟩
theorem waits_five {w wr W : World} {b gs gn : Nat} (h : Tl w wr b gs gn 1 (List.replicate 5 .wait)) (k : Kept wr W) : Calls Try.prog 20 #[.pointer (some ⟨b, 0, none⟩)] W fun e w' => ∃ g c, e = .returned (.slice (some ⟨g, 0, none⟩) 5 c) ∧ W.heap.size ≤ g ∧ OwnZ W.heap.size w' (.slice (some ⟨g, 0, none⟩) 5 c) [0, 1, 2, 3, 4] ∧ Kept W w' := by
  have e : wtl (List.replicate 5 .wait) = [0, 1, 2, 3, 4] := by rfl
  refine Calls.mono (waiting11_any (h.tn.on k)) fun _ w' ⟨v, h1, h2, h3⟩ => ?_
  rw [e] at h2
  obtain ⟨g, c, rfl, hg, -⟩ := h2.some_ (by decide)
  exact ⟨g, c, h1, hg, h2, h3⟩
end Go.Proofs.Ytolaeiagfnhllaa
