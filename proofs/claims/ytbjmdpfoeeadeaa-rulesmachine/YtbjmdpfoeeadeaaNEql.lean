/- What is proved: whether two rows are the same, as the program asks it; and what Sort answers; the list lies in memory. -/
import Derived.Test.YtbjmdpfoeeadeaaNOpen
namespace Go.Proofs.Ytbjmdpfoeeadeaa.Rw
open Go.RowKit

/-- Are two rows the same, field by field? -/
def sameR (a b : RwM) : Bool := decide (a.kind = b.kind ∧ a.time = b.time ∧ a.seq = b.seq ∧ a.index = b.index ∧ a.frm = b.frm ∧ a.til = b.til ∧ a.body.toList = b.body.toList)
theorem eql_rows (a b : RwM) (w : World) : (binOp .eql 42 (rowV a) (rowV b)).run Try.prog w = .ok (.bool (sameR a b)) w := by
  obtain ⟨kind, time, seq, index, frm, til, body⟩ := a
  obtain ⟨kind', time', seq', index', frm', til', body'⟩ := b
  unfold rowV sameR
  go_simp
  by_cases h1 : kind = kind' <;> simp [h1]
  by_cases h2 : time = time' <;> simp [h2]
  by_cases h3 : seq = seq' <;> simp [h3]
  by_cases h4 : index = index' <;> simp [h4]
  by_cases h5 : frm = frm' <;> simp [h5]
  by_cases h6 : til = til' <;> simp [h6]
  by_cases h7 : body.toList = body'.toList <;> simp [h7]
/-- Rows more behind a list of one's own, of either kind of row. -/
theorem app_rows {e t : TypeId} (hu : Try.prog.underlying t = some (.slice e)) (hi : (Try.prog.info? e).map (fun i => (i.zero, i.size, i.bytes)) = some (some (.agg #[.int .i64 0, .int .i64 0, .int .i64 0, .int .i64 0, .int .i64 0, .int .i64 0, .string .empty]), 7, 64))
    {w : World} {base : Nat} {v : Value} {xs l : List RwM} {a : Option Addr} {cap : Nat} (hown : w.ownsRow base e 7 v xs.length (rwc xs)) (hl : RowsAt w a l) (hnil : a = none → l.length = 0 ∧ cap = 0) (hb : xs.length + l.length ≤ 2199023255552) (hbase : base ≤ w.heap.size) (ty : TypeId) :
    ∃ v' w', (Builtin.append_ #[t, t] ty #[v, .slice a l.length cap]).run Try.prog w = .ok v' w' ∧ w'.ownsRow base e 7 v' (xs ++ l).length (rwc (xs ++ l)) ∧ Same (fun k => v.ownBlock = some k) w w' ∧ ∀ k, v'.ownBlock = some k → v.ownBlock = some k ∨ w.heap.size ≤ k := by
  obtain ⟨i0, hi0, hz0, hz1, hz2⟩ := info_parts hi
  cases a with
  | none =>
    obtain ⟨h0, rfl⟩ := hnil rfl
    obtain rfl : l = [] := List.eq_nil_of_length_eq_zero h0
    refine ⟨v, w, run_append_owned_none (P := Try.prog) (w := w) base t ty e i0 7 hu hi0 v xs.length _ hown, ?_, Same.refl _ _, fun k hk => .inl hk⟩
    simpa using hown
  | some ad =>
    obtain ⟨v', w', hr, r1, r2, _, r3⟩ := run_append_own_at (P := Try.prog) (w := w) base t ty e i0 _ 7 64 hu hi0 hz0 hz1 hz2 rfl (by decide) v xs.length _ hown ad l.length cap (rwc l) (length_rwc l)
      (fun j u hu => by
        have hj := (List.getElem?_eq_some_iff.1 hu).1
        rw [length_rwc] at hj
        obtain ⟨r, hr⟩ : ∃ r, l[j / 7]? = some r := ⟨_, List.getElem?_eq_getElem (by omega)⟩
        obtain ⟨b', off', eb, _, c0, c1, c2, c3, c4, c5, c6⟩ := hl _ _ hr
        cases eb
        rw [Addr.add_lit]
        have e7 := rwc_get hr (j % 7) (by omega)
        rw [show j / 7 * 7 + j % 7 = j by omega, hu] at e7
        have hm : j % 7 = 0 ∨ j % 7 = 1 ∨ j % 7 = 2 ∨ j % 7 = 3 ∨ j % 7 = 4 ∨ j % 7 = 5 ∨ j % 7 = 6 := by omega
        rcases hm with h | h | h | h | h | h | h <;> rw [h] at e7 <;> rw [e7]
        · rw [show off' + j = off' + j / 7 * 7 by omega]; exact c0
        · rw [show off' + j = off' + j / 7 * 7 + 1 by omega]; exact c1
        · rw [show off' + j = off' + j / 7 * 7 + 2 by omega]; exact c2
        · rw [show off' + j = off' + j / 7 * 7 + 3 by omega]; exact c3
        · rw [show off' + j = off' + j / 7 * 7 + 4 by omega]; exact c4
        · rw [show off' + j = off' + j / 7 * 7 + 5 by omega]; exact c5
        · rw [show off' + j = off' + j / 7 * 7 + 6 by omega]; exact c6) (rwc_one _) (by unfold maxLen; omega) (by omega) hbase
    rw [← rwc_append] at r1
    refine ⟨v', w', hr, by rw [List.length_append]; exact r1, Same.of_grown r2 (fun k e => e), fun k hk => ?_⟩
    rcases r3 with e | e
    · exact .inl (e ▸ hk)
    · rw [e] at hk
      cases hk
      exact .inr (Nat.le_refl _)
/-- An empty list just made. -/
theorem lit_rows (w : World) (e : TypeId) : (w.alloc (.cells #[] e)).ownsRow w.heap.size e 7 (.slice (some ⟨w.heap.size, 0, none⟩) 0 0) ([] : List RwM).length (rwc []) :=
  ⟨rfl, .inr ⟨w.heap.size, 0, #[], rfl, Nat.le_refl _, heap_new _ _, Nat.le_refl _, Nat.zero_le _, rfl, rfl⟩⟩
/-- A copy of a list of rows. -/
theorem copy_rows {e t : TypeId} (hu : Try.prog.underlying t = some (.slice e)) (hi : (Try.prog.info? e).map (fun i => (i.zero, i.size, i.bytes)) = some (some (.agg #[.int .i64 0, .int .i64 0, .int .i64 0, .int .i64 0, .int .i64 0, .int .i64 0, .string .empty]), 7, 64))
    {w : World} {a : Option Addr} {cap : Nat} {l : List RwM} (hr : RowsAt w a l) (hnil : a = none → l.length = 0 ∧ cap = 0) (hn : l.length ≤ 2199023255552) (ty : TypeId) :
    ∃ v' w', (Builtin.append_ #[t, t] ty #[.slice (some ⟨w.heap.size, 0, none⟩) 0 0, .slice a l.length cap]).run Try.prog (w.alloc (.cells #[] e)) = .ok v' w' ∧ w'.ownsRow w.heap.size e 7 v' l.length (rwc l) ∧ Kept w w' := by
  have k0 : Kept w (w.alloc (.cells #[] e)) := (Same.refl _ w).alloc _
  obtain ⟨v', w', h1, h2, h3, -⟩ := app_rows hu hi (lit_rows w e) (hr.on k0) hnil (by simpa using hn) (by rw [World.size_alloc]; omega) ty
  exact ⟨v', w', h1, h2, (k0.to (fun k => w.heap.size ≤ k)).trans h3 (fun i _ e => by simp [Value.ownBlock] at e; omega) |>.mono fun i hi e => by omega⟩
end Go.Proofs.Ytbjmdpfoeeadeaa.Rw
