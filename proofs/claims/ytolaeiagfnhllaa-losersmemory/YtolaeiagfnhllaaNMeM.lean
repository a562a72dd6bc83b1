/- What is proved: lists of rows of one's own: one row written anew, and one row more behind a list whose rows stay where they are; the bounds that a machine's memory sets. -/
import Derived.Test.YtolaeiagfnhllaaNPln
namespace Go.Proofs.Ytolaeiagfnhllaa
open Go.RowKit

theorem rwc_set (l : List RwM) (i : Nat) (r : RwM) (hi : i < l.length) : (((((((rwc l).set (i * 7) (.int .i64 r.kind)).set (i * 7 + 1) (.int .i64 r.time)).set (i * 7 + 2) (.int .i64 r.seq)).set (i * 7 + 3) (.int .i64 r.index)).set (i * 7 + 4) (.int .i64 r.frm)).set (i * 7 + 5) (.int .i64 r.til)).set (i * 7 + 6) (.string r.body) = rwc (l.set i r) := by
  induction l generalizing i with
  | nil => simp at hi
  | cons a l ih =>
    cases i with
    | zero => rfl
    | succ i =>
      have e := ih i (by simpa using hi)
      rw [List.set_cons_succ, rwc_cons, rwc_cons, ← e]
      have t : ∀ (m : List Value) (k : Nat) (x : Value), (rc1 a ++ m).set ((i + 1) * 7 + k) x = rc1 a ++ m.set (i * 7 + k) x := fun m k x => by
        rw [List.set_append_right _ _ (by show 7 ≤ _; omega)]
        congr 2
        show (i + 1) * 7 + k - 7 = _
        omega
      have t0 : ∀ (m : List Value) (x : Value), (rc1 a ++ m).set ((i + 1) * 7) x = rc1 a ++ m.set (i * 7) x := fun m x => t m 0 x
      rw [t0, t, t, t, t, t, t]
theorem OwnR.parts {base : Nat} {w : World} {g n cap : Nat} {l : List RwM} (h : OwnR base w (.slice (some ⟨g, 0, none⟩) n cap) l) : n = l.length ∧ ∃ cur, base ≤ g ∧ w.heap[g]? = some (.cells cur 32 (0, 0)) ∧ l.length ≤ cap ∧ cap ≤ maxLen ∧ cur.size = cap * 7 ∧ cur.toList.take (l.length * 7) = rwc l := by
  rcases h.2 with ⟨h', _⟩ | ⟨g', cap', cur, h', hb, hg, h1, h2, h3, h4⟩
  · cases h'
  · simp only [Value.slice.injEq, Option.some.injEq, Addr.mk.injEq, and_true] at h'
    obtain ⟨rfl, rfl, rfl⟩ := h'
    exact ⟨rfl, cur, hb, hg, h1, h2, h3, h4⟩
theorem Same.setRow (w : World) (g k : Nat) (v0 v1 v2 v3 v4 v5 v6 : Value) : Same (fun b => b = g) w (((((((w.setCell ⟨g, k * 7, none⟩ (v0)).setCell ⟨g, k * 7 + 1, none⟩ (v1)).setCell ⟨g, k * 7 + 2, none⟩ (v2)).setCell ⟨g, k * 7 + 3, none⟩ (v3)).setCell ⟨g, k * 7 + 4, none⟩ (v4)).setCell ⟨g, k * 7 + 5, none⟩ (v5)).setCell ⟨g, k * 7 + 6, none⟩ (v6)) :=
  (((((((Same.refl (fun b => b = g) w).setCell ⟨g, k * 7, none⟩ (.inr rfl) v0).setCell ⟨g, k * 7 + 1, none⟩ (.inr rfl) v1).setCell ⟨g, k * 7 + 2, none⟩ (.inr rfl) v2).setCell ⟨g, k * 7 + 3, none⟩ (.inr rfl) v3).setCell ⟨g, k * 7 + 4, none⟩ (.inr rfl) v4).setCell ⟨g, k * 7 + 5, none⟩ (.inr rfl) v5).setCell ⟨g, k * 7 + 6, none⟩ (.inr rfl) v6
/-- A row written anew. -/
theorem OwnR.set {base : Nat} {w : World} {g n cap : Nat} {l : List RwM} (h : OwnR base w (.slice (some ⟨g, 0, none⟩) n cap) l) {k : Nat} (hk : k < l.length) (r : RwM) : OwnR base (((((((w.setCell ⟨g, k * 7, none⟩ (.int .i64 r.kind)).setCell ⟨g, k * 7 + 1, none⟩ (.int .i64 r.time)).setCell ⟨g, k * 7 + 2, none⟩ (.int .i64 r.seq)).setCell ⟨g, k * 7 + 3, none⟩ (.int .i64 r.index)).setCell ⟨g, k * 7 + 4, none⟩ (.int .i64 r.frm)).setCell ⟨g, k * 7 + 5, none⟩ (.int .i64 r.til)).setCell ⟨g, k * 7 + 6, none⟩ (.string r.body)) (.slice (some ⟨g, 0, none⟩) n cap) (l.set k r) := by
  obtain ⟨rfl, cur, hb, hg, h1, h2, h3, h4⟩ := h.parts
  refine ⟨by rw [length_rwc, List.length_set], .inr ⟨g, cap, _, by rw [List.length_set], hb, setCell_at (setCell_at (setCell_at (setCell_at (setCell_at (setCell_at (setCell_at hg _ _) _ _) _ _) _ _) _ _) _ _) _ _, by rw [List.length_set]; exact h1, h2, by simpa using h3, ?_⟩⟩
  rw [List.length_set]
  simp only [Array.toList_setIfInBounds, List.take_set]
  rw [h4, rwc_set _ _ _ hk]
theorem OwnR.slots {base : Nat} {w : World} {g n cap : Nat} {l : List RwM} (h : OwnR base w (.slice (some ⟨g, 0, none⟩) n cap) l) {k : Nat} (hk : k < l.length) :
    (∃ v0 v1 v2 v3 v4 v5 v6, w.cell? ⟨g, k * 7, none⟩ = some v0 ∧ w.cell? ⟨g, k * 7 + 1, none⟩ = some v1 ∧ w.cell? ⟨g, k * 7 + 2, none⟩ = some v2 ∧ w.cell? ⟨g, k * 7 + 3, none⟩ = some v3 ∧ w.cell? ⟨g, k * 7 + 4, none⟩ = some v4 ∧ w.cell? ⟨g, k * 7 + 5, none⟩ = some v5 ∧ w.cell? ⟨g, k * 7 + 6, none⟩ = some v6) ∧
    w.frozen? ⟨g, k * 7, none⟩ = false ∧ w.frozen? ⟨g, k * 7 + 1, none⟩ = false ∧ w.frozen? ⟨g, k * 7 + 2, none⟩ = false ∧ w.frozen? ⟨g, k * 7 + 3, none⟩ = false ∧ w.frozen? ⟨g, k * 7 + 4, none⟩ = false ∧ w.frozen? ⟨g, k * 7 + 5, none⟩ = false ∧ w.frozen? ⟨g, k * 7 + 6, none⟩ = false ∧ g < w.heap.size := by
  obtain ⟨-, cur, hb, hg, h1, h2, h3, h4⟩ := h.parts
  have e : ∀ o, o < cur.size → ∃ v, w.cell? ⟨g, o, none⟩ = some v := fun o ho => ⟨cur[o], by rw [cell_of hg]; exact Array.getElem?_eq_getElem ho⟩
  obtain ⟨v0, e0⟩ := e (k * 7) (by omega)
  obtain ⟨v1, e1⟩ := e (k * 7 + 1) (by omega)
  obtain ⟨v2, e2⟩ := e (k * 7 + 2) (by omega)
  obtain ⟨v3, e3⟩ := e (k * 7 + 3) (by omega)
  obtain ⟨v4, e4⟩ := e (k * 7 + 4) (by omega)
  obtain ⟨v5, e5⟩ := e (k * 7 + 5) (by omega)
  obtain ⟨v6, e6⟩ := e (k * 7 + 6) (by omega)
  exact ⟨⟨v0, v1, v2, v3, v4, v5, v6, e0, e1, e2, e3, e4, e5, e6⟩, frozen_of hg _, frozen_of hg _, frozen_of hg _, frozen_of hg _, frozen_of hg _, frozen_of hg _, frozen_of hg _, lt_of_heap hg⟩
theorem OwnR.pre {base : Nat} {w : World} {g n cap : Nat} {l m : List RwM} (h : OwnR base w (.slice (some ⟨g, 0, none⟩) n cap) (l ++ m)) : OwnR base w (.slice (some ⟨g, 0, none⟩) l.length cap) l := by
  obtain ⟨-, cur, hb, hg, h1, h2, h3, h4⟩ := h.parts
  rw [List.length_append] at h1 h4
  refine ⟨length_rwc l, .inr ⟨g, cap, cur, rfl, hb, hg, by omega, h2, h3, ?_⟩⟩
  have := congrArg (List.take (l.length * 7)) h4
  rw [List.take_take, Nat.min_eq_left (by omega), rwc_append, List.take_append_of_le_length (by rw [length_rwc]; omega), List.take_of_length_le (l := rwc l) (by rw [length_rwc]; omega)] at this
  exact this
/-- One row more; where the list moves, the old block stays as it was. -/
theorem app_row_more {w : World} {base g c : Nat} {xs : List RwM} (r : RwM) (h : OwnR base w (.slice (some ⟨g, 0, none⟩) xs.length c) xs) (hb : xs.length + 1 ≤ 2199023255552) (hbase : base ≤ w.heap.size) (ty : TypeId) :
    ∃ v' w', (Builtin.append_ #[39, 39] ty #[.slice (some ⟨g, 0, none⟩) xs.length c, .slice (some ⟨w.heap.size, 0, none⟩) 1 1]).run Try.prog (w.alloc (.cells #[.int .i64 r.kind, .int .i64 r.time, .int .i64 r.seq, .int .i64 r.index, .int .i64 r.frm, .int .i64 r.til, .string r.body] 32)) = .ok v' w' ∧
      ∃ g' c', v' = .slice (some ⟨g', 0, none⟩) (xs.length + 1) c' ∧ OwnR base w' (.slice (some ⟨g', 0, none⟩) (xs.length + 1) c') (xs ++ [r]) ∧ ((g' = g ∧ c' = c ∧ Same (fun k => k = g) w w') ∨ (w.heap.size ≤ g' ∧ Kept w w')) := by
  obtain ⟨i0, hi0, hz0, hz1, hz2⟩ := info_parts Try.infoRow
  have k0 : Kept w (w.alloc (.cells #[.int .i64 r.kind, .int .i64 r.time, .int .i64 r.seq, .int .i64 r.index, .int .i64 r.frm, .int .i64 r.til, .string r.body] 32)) := (Same.refl _ w).alloc _
  have h0 : OwnR base (w.alloc (.cells #[.int .i64 r.kind, .int .i64 r.time, .int .i64 r.seq, .int .i64 r.index, .int .i64 r.frm, .int .i64 r.til, .string r.body] 32)) (.slice (some ⟨g, 0, none⟩) xs.length c) xs := OwnR.kept h k0 (fun _ _ e => e)
  have hcell := heap_new w (.cells #[.int .i64 r.kind, .int .i64 r.time, .int .i64 r.seq, .int .i64 r.index, .int .i64 r.frm, .int .i64 r.til, .string r.body] 32 (0, 0))
  have hnew : ∀ j u, (rwc [r])[j]? = some u → (w.alloc (.cells #[.int .i64 r.kind, .int .i64 r.time, .int .i64 r.seq, .int .i64 r.index, .int .i64 r.frm, .int .i64 r.til, .string r.body] 32)).cell? ((⟨w.heap.size, 0, none⟩ : Addr).add j) = some u := fun j u hu => by
    rw [Addr.add_lit, Nat.zero_add, cell_of hcell]
    rw [show rwc [r] = rc1 r from List.append_nil _] at hu
    simpa [rc1] using hu
  by_cases hr : xs.length + 1 ≤ c
  · obtain ⟨w', r1, r2, r3⟩ := run_append_fits (P := Try.prog) (w := w.alloc (.cells #[.int .i64 r.kind, .int .i64 r.time, .int .i64 r.seq, .int .i64 r.index, .int .i64 r.frm, .int .i64 r.til, .string r.body] 32)) base 39 ty 32 i0 7 Try.underlying39 hi0 hz1 g xs.length c (rwc xs) h0 ⟨w.heap.size, 0, none⟩ 1 1 (rwc [r]) (length_rwc [r]) hnew (rwc_one _) hr
    rw [← rwc_append] at r2
    have s1 : Same (fun k => k = g) (w.alloc (.cells #[.int .i64 r.kind, .int .i64 r.time, .int .i64 r.seq, .int .i64 r.index, .int .i64 r.frm, .int .i64 r.til, .string r.body] 32)) w' := Same.of_grown r3 (fun k e => by simp at e; exact e.symm)
    exact ⟨_, w', r1, g, c, rfl, by rw [OwnR, List.length_append]; exact r2, .inl ⟨rfl, rfl, (Kept.to k0 _).trans' s1⟩⟩
  · obtain ⟨-, cur, -, hg, -, -, -, h4⟩ := h0.parts
    have hrun := run_append_grow (P := Try.prog) (w := w.alloc (.cells #[.int .i64 r.kind, .int .i64 r.time, .int .i64 r.seq, .int .i64 r.index, .int .i64 r.frm, .int .i64 r.til, .string r.body] 32)) 39 ty 32 i0 _ Try.underlying39 hi0 hz0 ⟨g, 0, none⟩ xs.length c (rwc xs) (by rw [hz1, length_rwc])
      (fun j v hv => by
        have hj := (List.getElem?_eq_some_iff.1 hv).1
        rw [length_rwc] at hj
        rw [Addr.add_lit, Nat.zero_add, cell_of hg, ← hv, ← h4, List.getElem?_take_of_lt hj]
        simp)
      ⟨w.heap.size, 0, none⟩ 1 1 (rwc [r]) (by rw [hz1]; rfl) hnew (by omega) (by omega) (by rw [hz2]; exact growslice_fits (by omega) (by omega))
    refine ⟨_, _, hrun, (w.alloc (.cells #[.int .i64 r.kind, .int .i64 r.time, .int .i64 r.seq, .int .i64 r.index, .int .i64 r.frm, .int .i64 r.til, .string r.body] 32)).heap.size, _, rfl, ?_, .inr ⟨by simp, (k0.drew).alloc _⟩⟩
    have hge := grownCap_ge (w.alloc (.cells #[.int .i64 r.kind, .int .i64 r.time, .int .i64 r.seq, .int .i64 r.index, .int .i64 r.frm, .int .i64 r.til, .string r.body] 32)) (xs.length + 1) c 32
    refine ⟨by rw [length_rwc], .inr ⟨_, _, _, by rw [List.length_append]; rfl, by simp; omega, heap_new _ _, by rw [List.length_append]; exact hge, grownCap_le_maxLen _ _ _ _ (by unfold maxLen; omega), ?_, ?_⟩⟩
    · have hz : (Value.agg #[.int .i64 0, .int .i64 0, .int .i64 0, .int .i64 0, .int .i64 0, .int .i64 0, .string .empty]).cells.size = 7 := rfl
      simp only [Array.size_append, List.size_toArray, size_zeroCells, hz, length_rwc]
      simp
      omega
    · rw [List.length_append, Array.toList_append, Array.toList_append]
      simp only
      rw [rwc_append, List.take_append_of_le_length (by simp [length_rwc]; omega)]
      rw [List.take_of_length_le (by simp [length_rwc]; omega)]
end Go.Proofs.Ytolaeiagfnhllaa
