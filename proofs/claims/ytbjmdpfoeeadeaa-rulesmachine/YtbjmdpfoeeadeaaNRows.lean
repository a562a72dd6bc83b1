/- What is proved: lists of rows in memory, one's own and others', and a row more behind one's own; the bounds that a machine's memory sets. -/
import Derived.Test.YtbjmdpfoeeadeaaQEnc
import Derived.Laws.MakeOwn
namespace Go.Proofs.Ytbjmdpfoeeadeaa.Rw
open Go.RowKit

instance : Inhabited RwM := ⟨r0⟩
/-- The rows l lie in w from address a on. -/
def RowsAt (w : World) (a : Option Addr) (l : List RwM) : Prop :=
  ∀ i r, l[i]? = some r → ∃ b off, a = some ⟨b, off, none⟩ ∧ b < w.heap.size ∧ w.cell? ⟨b, off + i * 7, none⟩ = some (.int .i64 r.kind) ∧ w.cell? ⟨b, off + i * 7 + 1, none⟩ = some (.int .i64 r.time) ∧ w.cell? ⟨b, off + i * 7 + 2, none⟩ = some (.int .i64 r.seq) ∧ w.cell? ⟨b, off + i * 7 + 3, none⟩ = some (.int .i64 r.index) ∧ w.cell? ⟨b, off + i * 7 + 4, none⟩ = some (.int .i64 r.frm) ∧ w.cell? ⟨b, off + i * 7 + 5, none⟩ = some (.int .i64 r.til) ∧ w.cell? ⟨b, off + i * 7 + 6, none⟩ = some (.string r.body)
theorem RowsAt.nil (w : World) (a : Option Addr) : RowsAt w a [] := fun i r h => by simp at h
theorem RowsAt.on {w w' : World} {a : Option Addr} {l : List RwM} (h : RowsAt w a l) (k : Kept w w') : RowsAt w' a l := fun i r hr => by
  obtain ⟨b, off, rfl, hb, c0, c1, c2, c3, c4, c5, c6⟩ := h i r hr
  have t : ∀ o, w'.cell? ⟨b, o, none⟩ = w.cell? ⟨b, o, none⟩ := fun o => k.cell (p := ⟨b, o, none⟩) hb (fun e => e)
  exact ⟨b, off, rfl, Nat.lt_of_lt_of_le hb k.size, (t _).trans c0, (t _).trans c1, (t _).trans c2, (t _).trans c3, (t _).trans c4, (t _).trans c5, (t _).trans c6⟩
theorem RowsAt.kept {S : Nat → Prop} {w w' : World} {a : Option Addr} {l : List RwM} (h : RowsAt w a l) (k : Same S w w') (hd : ∀ b, InB a l.length b → ¬ S b) : RowsAt w' a l := fun i r hr => by
  obtain ⟨b, off, rfl, hb, c0, c1, c2, c3, c4, c5, c6⟩ := h i r hr
  have t : ∀ o, w'.cell? ⟨b, o, none⟩ = w.cell? ⟨b, o, none⟩ := fun o => k.cell (p := ⟨b, o, none⟩) hb (hd b ⟨pos_of_get hr, off, rfl⟩)
  exact ⟨b, off, rfl, Nat.lt_of_lt_of_le hb k.size, (t _).trans c0, (t _).trans c1, (t _).trans c2, (t _).trans c3, (t _).trans c4, (t _).trans c5, (t _).trans c6⟩
theorem RowsAt.lt {w : World} {a : Option Addr} {l : List RwM} (h : RowsAt w a l) {k : Nat} (hk : InB a l.length k) : k < w.heap.size := by
  obtain ⟨h0, off, rfl⟩ := hk
  obtain ⟨b, off', e, hb, _⟩ := h 0 l[0] (List.getElem?_eq_getElem h0)
  cases e
  exact hb
theorem Try.infoRow : (Try.prog.info? 42).map (fun i => (i.zero, i.size, i.bytes)) = some (some (.agg #[.int .i64 0, .int .i64 0, .int .i64 0, .int .i64 0, .int .i64 0, .int .i64 0, .string .empty]), 7, 64) := by kernel_rfl
def rc1 (r : RwM) : List Value := [.int .i64 r.kind, .int .i64 r.time, .int .i64 r.seq, .int .i64 r.index, .int .i64 r.frm, .int .i64 r.til, .string r.body]
def rwc (l : List RwM) : List Value := l.flatMap rc1
theorem length_rwc (l : List RwM) : (rwc l).length = l.length * 7 := by
  induction l with
  | nil => rfl
  | cons a r ih => simp only [rwc, List.flatMap_cons, List.length_append, List.length_cons, rc1, List.length_nil] at *; omega
theorem rwc_cons (r : RwM) (l : List RwM) : rwc (r :: l) = rc1 r ++ rwc l := rfl
theorem rwc_append (a b : List RwM) : rwc (a ++ b) = rwc a ++ rwc b := by simp [rwc]
theorem rwc_get {l : List RwM} {i : Nat} {r : RwM} (h : l[i]? = some r) (j : Nat) (hj : j < 7) : (rwc l)[i * 7 + j]? = (rc1 r)[j]? := by
  induction l generalizing i with
  | nil => simp at h
  | cons a l ih =>
    cases i with
    | zero =>
      simp only [List.getElem?_cons_zero, Option.some.injEq] at h
      subst h
      rw [rwc_cons, Nat.zero_mul, Nat.zero_add, List.getElem?_append_left (by exact hj)]
    | succ i =>
      simp only [List.getElem?_cons_succ] at h
      rw [rwc_cons, List.getElem?_append_right (by show 7 ≤ _; omega), ← ih h]
      congr 1
      show (i + 1) * 7 + j - 7 = _
      omega
theorem rwc_one (l : List RwM) : ∀ v ∈ rwc l, v.oneCell' = true := by
  intro v hv
  obtain ⟨r, _, hf⟩ := List.mem_flatMap.1 hv
  simp only [rc1, List.mem_cons, List.not_mem_nil, or_false] at hf
  rcases hf with rfl | rfl | rfl | rfl | rfl | rfl | rfl <;> rfl
/-- The value v is a list of the rows l of one's own, in a block from base on. -/
abbrev OwnR (base : Nat) (w : World) (v : Value) (l : List RwM) : Prop := w.ownsRow base 42 7 v l.length (rwc l)
theorem OwnR.nil (base : Nat) (w : World) : OwnR base w (.slice none 0 0) [] := World.ownsRow_nil w base 42 7
theorem OwnR.kept {S : Nat → Prop} {base : Nat} {w w' : World} {v : Value} {l : List RwM} (h : OwnR base w v l) (hs : Same S w w') (hn : ∀ k, v.ownBlock = some k → ¬ S k) : OwnR base w' v l := by
  refine ⟨h.1, ?_⟩
  rcases h.2 with h2 | ⟨g, cap, cur, rfl, hb, hg, h1, h2, h3, h4⟩
  · exact .inl h2
  · exact .inr ⟨g, cap, cur, rfl, hb, (hs.block g (lt_of_heap hg) (hn g (by simp [Value.ownBlock]))).trans hg, h1, h2, h3, h4⟩
theorem OwnR.block {base : Nat} {w : World} {v : Value} {l : List RwM} (h : OwnR base w v l) {k : Nat} (hk : v.ownBlock = some k) : base ≤ k ∧ k < w.heap.size := by
  rcases h.2 with ⟨rfl, _⟩ | ⟨g, cap, cur, rfl, hb, hg, h1, h2, h3, h4⟩
  · simp [Value.ownBlock] at hk
  · simp [Value.ownBlock] at hk
    subst hk
    exact ⟨hb, lt_of_heap hg⟩
theorem OwnR.rows {base : Nat} {w : World} {v : Value} {l : List RwM} (h : OwnR base w v l) : ∃ a cap, v = .slice a l.length cap ∧ RowsAt w a l ∧ l.length ≤ cap := by
  rcases h.2 with ⟨rfl, hn⟩ | ⟨g, cap, cur, rfl, hb, hg, h1, h2, h3, h4⟩
  · have : l = [] := List.eq_nil_of_length_eq_zero (by omega)
    subst this
    exact ⟨none, 0, rfl, RowsAt.nil _ _, Nat.le_refl _⟩
  · refine ⟨_, cap, rfl, fun i r hr => ⟨g, 0, rfl, lt_of_heap hg, ?_⟩, h1⟩
    have hi := (List.getElem?_eq_some_iff.1 hr).1
    have hget : ∀ j, j < 7 → w.cell? ⟨g, 0 + i * 7 + j, none⟩ = (rc1 r)[j]? := fun j hj => by
      rw [cell_of hg, Nat.zero_add, ← rwc_get hr j hj, ← h4, List.getElem?_take_of_lt (by omega)]
      simp
    exact ⟨hget 0 (by decide), hget 1 (by decide), hget 2 (by decide), hget 3 (by decide), hget 4 (by decide), hget 5 (by decide), hget 6 (by decide)⟩
theorem row_new (w : World) (r : RwM) : RowsAt (w.alloc (.cells #[.int .i64 r.kind, .int .i64 r.time, .int .i64 r.seq, .int .i64 r.index, .int .i64 r.frm, .int .i64 r.til, .string r.body] 42 (0, 0))) (some ⟨w.heap.size, 0, none⟩) [r] := fun i x hx => by
  cases i with
  | zero =>
    simp only [List.getElem?_cons_zero, Option.some.injEq] at hx
    subst hx
    obtain ⟨⟨c0, c1, c2, c3, c4, c5, c6⟩, -⟩ := row_obj (heap_new w (.cells #[.int .i64 r.kind, .int .i64 r.time, .int .i64 r.seq, .int .i64 r.index, .int .i64 r.frm, .int .i64 r.til, .string r.body] 42 (0, 0)))
    exact ⟨w.heap.size, 0, rfl, by simp [World.size_alloc], c0, c1, c2, c3, c4, c5, c6⟩
  | succ i => simp at hx
/-- One row more behind a list of one's own. -/
theorem app_row_one {w : World} {base : Nat} {v : Value} {xs : List RwM} (r : RwM) (hown : OwnR base w v xs) (hb : xs.length + 1 ≤ 2199023255552) (hbase : base ≤ w.heap.size) (ty : TypeId) :
    ∃ v' w', (Builtin.append_ #[35, 35] ty #[v, .slice (some ⟨w.heap.size, 0, none⟩) 1 1]).run Try.prog (w.alloc (.cells #[.int .i64 r.kind, .int .i64 r.time, .int .i64 r.seq, .int .i64 r.index, .int .i64 r.frm, .int .i64 r.til, .string r.body] 42)) = .ok v' w' ∧ OwnR base w' v' (xs ++ [r]) ∧ Same (fun k => v.ownBlock = some k) w w' ∧ ∀ k, v'.ownBlock = some k → v.ownBlock = some k ∨ w.heap.size ≤ k := by
  obtain ⟨i0, hi0, hz0, hz1, hz2⟩ := info_parts Try.infoRow
  have k0 : Kept w (w.alloc (.cells #[.int .i64 r.kind, .int .i64 r.time, .int .i64 r.seq, .int .i64 r.index, .int .i64 r.frm, .int .i64 r.til, .string r.body] 42 (0, 0))) := (Same.refl _ w).alloc _
  have ho := OwnR.kept hown k0 (fun _ _ e => e)
  have hcell := heap_new w (.cells #[.int .i64 r.kind, .int .i64 r.time, .int .i64 r.seq, .int .i64 r.index, .int .i64 r.frm, .int .i64 r.til, .string r.body] 42 (0, 0))
  obtain ⟨v', w', hr, r1, r2, _, r3⟩ := run_append_own_at (P := Try.prog) (w := w.alloc (.cells #[.int .i64 r.kind, .int .i64 r.time, .int .i64 r.seq, .int .i64 r.index, .int .i64 r.frm, .int .i64 r.til, .string r.body] 42)) base 35 ty 42 i0 _ 7 64 Try.underlying35 hi0 hz0 hz1 hz2 rfl (by decide) v xs.length _ ho ⟨w.heap.size, 0, none⟩ 1 1 (rwc [r]) (length_rwc [r])
    (fun j u hu => by
      rw [Addr.add_lit, Nat.zero_add, cell_of hcell]
      rw [show rwc [r] = rc1 r from List.append_nil _] at hu
      simpa [rc1] using hu) (rwc_one _) (by unfold maxLen; omega) (by omega) (by simp [World.size_alloc]; omega)
  rw [← rwc_append] at r1
  refine ⟨v', w', hr, by rw [OwnR, List.length_append]; exact r1, (Kept.to k0 _).trans' (Same.of_grown r2 (fun k e => e)), fun k hk => ?_⟩
  rcases r3 with e | e
  · exact .inl (e ▸ hk)
  · rw [e] at hk
    cases hk
    rw [World.size_alloc]
    exact .inr (by omega)
end Go.Proofs.Ytbjmdpfoeeadeaa.Rw
