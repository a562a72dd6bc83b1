/- What is proved: lists of the document's rows in memory; no condition. -/
import Derived.Test.YtbjmdpfoeeadeabNEql
import Derived.Deep.DeepCutAuto
namespace Go.Proofs.Ytbjmdpfoeeadeab.Rw
open Go.RowKit

theorem Try.infoRRow : (Try.prog.info? 46).map (fun i => (i.zero, i.size, i.bytes)) = some (some (.agg #[.int .i64 0, .int .i64 0, .int .i64 0, .int .i64 0, .int .i64 0, .int .i64 0, .string .empty]), 7, 64) := by kernel_rfl
/-- The value v is a list of the document's rows l of one's own, in a block from base on. -/
abbrev OwnQ (base : Nat) (w : World) (v : Value) (l : List RwM) : Prop := w.ownsRow base 46 7 v l.length (rwc l)
theorem OwnQ.nil (base : Nat) (w : World) : OwnQ base w (.slice none 0 0) [] := World.ownsRow_nil w base 46 7
theorem OwnQ.kept {S : Nat → Prop} {base : Nat} {w w' : World} {v : Value} {l : List RwM} (h : OwnQ base w v l) (hs : Same S w w') (hn : ∀ k, v.ownBlock = some k → ¬ S k) : OwnQ base w' v l := by
  refine ⟨h.1, ?_⟩
  rcases h.2 with h2 | ⟨g, cap, cur, rfl, hb, hg, h1, h2, h3, h4⟩
  · exact .inl h2
  · exact .inr ⟨g, cap, cur, rfl, hb, (hs.block g (lt_of_heap hg) (hn g (by simp [Value.ownBlock]))).trans hg, h1, h2, h3, h4⟩
theorem OwnQ.lower {base base' : Nat} {w : World} {v : Value} {l : List RwM} (h : OwnQ base w v l) (hb : base' ≤ base) : OwnQ base' w v l := by
  refine ⟨h.1, ?_⟩
  rcases h.2 with h2 | ⟨g, cap, cur, rfl, hb', rest⟩
  · exact .inl h2
  · exact .inr ⟨g, cap, cur, rfl, Nat.le_trans hb hb', rest⟩
theorem OwnQ.block {base : Nat} {w : World} {v : Value} {l : List RwM} (h : OwnQ base w v l) {k : Nat} (hk : v.ownBlock = some k) : base ≤ k ∧ k < w.heap.size := by
  rcases h.2 with ⟨rfl, _⟩ | ⟨g, cap, cur, rfl, hb, hg, h1, h2, h3, h4⟩
  · simp [Value.ownBlock] at hk
  · simp [Value.ownBlock] at hk
    subst hk
    exact ⟨hb, lt_of_heap hg⟩
theorem OwnQ.rows {base : Nat} {w : World} {v : Value} {l : List RwM} (h : OwnQ base w v l) : ∃ a cap, v = .slice a l.length cap ∧ RowsAt w a l ∧ l.length ≤ cap ∧ (a = none → l.length = 0 ∧ cap = 0) ∧ ∀ k, InB a l.length k → base ≤ k := by
  rcases h.2 with ⟨rfl, hn⟩ | ⟨g, cap, cur, rfl, hb, hg, h1, h2, h3, h4⟩
  · have : l = [] := List.eq_nil_of_length_eq_zero (by omega)
    subst this
    exact ⟨none, 0, rfl, RowsAt.nil _ _, Nat.le_refl _, fun _ => ⟨rfl, rfl⟩, fun k hk => absurd hk.1 (by simp)⟩
  · refine ⟨_, cap, rfl, fun i r hr => ⟨g, 0, rfl, lt_of_heap hg, ?_⟩, h1, fun e => (by cases e), fun k hk => by obtain ⟨_, off, e⟩ := hk; cases e; exact hb⟩
    have hi := (List.getElem?_eq_some_iff.1 hr).1
    have hget : ∀ j, j < 7 → w.cell? ⟨g, 0 + i * 7 + j, none⟩ = (rc1 r)[j]? := fun j hj => by
      rw [cell_of hg, Nat.zero_add, ← rwc_get hr j hj, ← h4, List.getElem?_take_of_lt (by omega)]
      simp
    exact ⟨hget 0 (by decide), hget 1 (by decide), hget 2 (by decide), hget 3 (by decide), hget 4 (by decide), hget 5 (by decide), hget 6 (by decide)⟩
theorem RowsAt.take {w : World} {a : Option Addr} {l : List RwM} (h : RowsAt w a l) (m : Nat) : RowsAt w a (l.take m) := fun i r hr => by
  have hi := (List.getElem?_eq_some_iff.1 hr).1
  rw [List.length_take] at hi
  rw [List.getElem?_take_of_lt (by omega)] at hr
  exact h i r hr
theorem RowsAt.drop {w : World} {b off : Nat} {l : List RwM} (h : RowsAt w (some ⟨b, off, none⟩) l) (m : Nat) : RowsAt w (some ⟨b, off + m * 7, none⟩) (l.drop m) := fun i r hr => by
  rw [List.getElem?_drop] at hr
  obtain ⟨b', off', e, hb, c0, c1, c2, c3, c4, c5, c6⟩ := h (m + i) r hr
  cases e
  have t : ∀ k, off + m * 7 + i * 7 + k = off + (m + i) * 7 + k := fun k => by omega
  have t0 : off + m * 7 + i * 7 = off + (m + i) * 7 := by omega
  exact ⟨b, off + m * 7, rfl, hb, by rw [t0]; exact c0, by rw [t]; exact c1, by rw [t]; exact c2, by rw [t]; exact c3, by rw [t]; exact c4, by rw [t]; exact c5, by rw [t]; exact c6⟩
/-- One of the document's rows more, the row lying in a block. -/
theorem app_q {w : World} {base b : Nat} {v : Value} {xs : List RwM} (r : RwM) (hown : OwnQ base w v xs) (hcell : w.heap[b]? = some (.cells #[.int .i64 r.kind, .int .i64 r.time, .int .i64 r.seq, .int .i64 r.index, .int .i64 r.frm, .int .i64 r.til, .string r.body] 46 (0, 0))) (hb : xs.length + 1 ≤ 2199023255552) (hbase : base ≤ w.heap.size) (ty : TypeId) :
    ∃ v' w', (Builtin.append_ #[43, 43] ty #[v, .slice (some ⟨b, 0, none⟩) 1 1]).run Try.prog w = .ok v' w' ∧ OwnQ base w' v' (xs ++ [r]) ∧ Same (fun k => v.ownBlock = some k) w w' ∧ ∀ k, v'.ownBlock = some k → v.ownBlock = some k ∨ w.heap.size ≤ k := by
  have hra : RowsAt w (some ⟨b, 0, none⟩) [r] := fun i x hx => by
    cases i with
    | zero =>
      simp only [List.getElem?_cons_zero, Option.some.injEq] at hx
      subst hx
      obtain ⟨⟨c0, c1, c2, c3, c4, c5, c6⟩, -⟩ := row_obj hcell
      exact ⟨b, 0, rfl, lt_of_heap hcell, c0, c1, c2, c3, c4, c5, c6⟩
    | succ i => simp at hx
  exact app_rows (cap := 1) Try.underlying43 Try.infoRRow hown hra (fun e => by cases e) (by simpa using hb) hbase ty
/-- What stands while two sorted lists are laid into one. -/
structure Mg (order : Int) (w : World) (base : Nat) (A B : List RwM) (ov : Value) (i j : Nat) (wr : World) : Prop where
  own : ∃ O, OwnQ base wr ov O ∧ O.length = i + j ∧ O ++ mrg (bef order) (A.drop i) (B.drop j) = mrg (bef order) A B
  il : i ≤ A.length
  jl : j ≤ B.length
  same : Same (fun k => base ≤ k) w wr
theorem Mg.more {order : Int} {w : World} {base : Nat} {A B : List RwM} {ov v5 : Value} {i j i' j' : Nat} {wr W w5 : World} {x : RwM} {O : List RwM} (m : Mg order w base A B ov i j wr) (hO : OwnQ base wr ov O) (hl : O.length = i + j) (he : O ++ mrg (bef order) (A.drop i) (B.drop j) = mrg (bef order) A B)
    (k : Kept wr W) (o5 : OwnQ base w5 v5 (O ++ [x])) (k5 : Same (fun k => ov.ownBlock = some k) W w5) (hn : mrg (bef order) (A.drop i) (B.drop j) = x :: mrg (bef order) (A.drop i') (B.drop j')) (hs : i' + j' = i + j + 1) (hi : i' ≤ A.length) (hj : j' ≤ B.length) : Mg order w base A B v5 i' j' w5 :=
  ⟨⟨O ++ [x], o5, by simp; omega, by rw [← he, hn]; simp⟩, hi, hj, (m.same.trans' (k.to _)).trans k5 fun b _ e => (OwnQ.block hO e).1⟩
theorem mrg_takeA {order : Int} {A B : List RwM} {i j : Nat} {x : RwM} (hx : A[i]? = some x) (h : B.length ≤ j ∨ ∃ y, B[j]? = some y ∧ bef order y x = false) : mrg (bef order) (A.drop i) (B.drop j) = x :: mrg (bef order) (A.drop (i + 1)) (B.drop j) := by
  obtain ⟨hi, rfl⟩ := List.getElem?_eq_some_iff.1 hx
  rw [List.drop_eq_getElem_cons hi]
  rcases h with h | ⟨y, hy, hb⟩
  · rw [List.drop_eq_nil_of_le h, mrg_nil, mrg_nil]
  · obtain ⟨hj, rfl⟩ := List.getElem?_eq_some_iff.1 hy
    rw [List.drop_eq_getElem_cons hj, mrg_fst _ _ hb]
theorem mrg_takeB {order : Int} {A B : List RwM} {i j : Nat} {y : RwM} (hy : B[j]? = some y) (h : A.length ≤ i ∨ ∃ x, A[i]? = some x ∧ bef order y x = true) : mrg (bef order) (A.drop i) (B.drop j) = y :: mrg (bef order) (A.drop i) (B.drop (j + 1)) := by
  obtain ⟨hj, rfl⟩ := List.getElem?_eq_some_iff.1 hy
  rw [List.drop_eq_getElem_cons hj]
  rcases h with h | ⟨x, hx, hb⟩
  · rw [List.drop_eq_nil_of_le h, nil_mrg, nil_mrg]
  · obtain ⟨hi, rfl⟩ := List.getElem?_eq_some_iff.1 hx
    rw [List.drop_eq_getElem_cons hi, mrg_snd _ _ hb]
end Go.Proofs.Ytbjmdpfoeeadeab.Rw
