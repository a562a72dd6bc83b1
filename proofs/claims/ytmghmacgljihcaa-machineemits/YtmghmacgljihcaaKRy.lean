/- What is proved: the document's machine in memory, with the blocks of each of its lists told apart: what storing a number, a longer list, one more transaction leave; no condition. -/
import Derived.Test.YtmghmacgljihcaaKRx
namespace Go.Proofs.Ytmghmacgljihcaa
open Go.RowKit

/-- Whose a block is. -/
inductive Ug where
  | out
  | mach
  | all
  | ends
  | ops (i : Nat)
  | ats (i : Nat)
noncomputable def reu (tg : Nat → Ug) (X : Nat → Prop) (T : Ug) : Nat → Ug := fun b => open Classical in if X b then T else tg b
theorem reu_in {tg : Nat → Ug} {X : Nat → Prop} {T : Ug} {b : Nat} (h : X b) : reu tg X T b = T := by unfold reu; rw [if_pos h]
theorem reu_no {tg : Nat → Ug} {X : Nat → Prop} {T : Ug} {b : Nat} (h : ¬ X b) : reu tg X T b = tg b := by unfold reu; rw [if_neg h]
abbrev Rt := Rn × Value × Value
def rnc1 (x : Rt) : List Value := [.int .i64 x.1.t.f0, .int .i64 x.1.t.f1, .int .i64 x.1.t.f2, .int .i64 x.1.t.f3, .int .i64 x.1.t.f4, .int .i64 x.1.t.f5, .int .i64 x.1.t.f6, x.2.1, .int .i64 x.1.st, x.2.2]
def rnc (l : List Rt) : List Value := l.flatMap rnc1
theorem length_rnc (l : List Rt) : (rnc l).length = l.length * 10 := by
  induction l with
  | nil => rfl
  | cons a r ih => simp only [rnc, List.flatMap_cons, List.length_append, List.length_cons, rnc1, List.length_nil] at *; omega
theorem rnc_cons (x : Rt) (l : List Rt) : rnc (x :: l) = rnc1 x ++ rnc l := rfl
theorem rnc_append (a b : List Rt) : rnc (a ++ b) = rnc a ++ rnc b := by simp [rnc]
theorem rnc_get {l : List Rt} {i : Nat} {x : Rt} (h : l[i]? = some x) (j : Nat) (hj : j < 10) : (rnc l)[i * 10 + j]? = (rnc1 x)[j]? := by
  induction l generalizing i with
  | nil => simp at h
  | cons a l ih =>
    cases i with
    | zero =>
      simp only [List.getElem?_cons_zero, Option.some.injEq] at h
      subst h
      rw [rnc_cons, Nat.zero_mul, Nat.zero_add, List.getElem?_append_left (by exact hj)]
    | succ i =>
      simp only [List.getElem?_cons_succ] at h
      rw [rnc_cons, List.getElem?_append_right (by show 10 ≤ _; omega), ← ih h]
      congr 1
      show (i + 1) * 10 + j - 10 = _
      omega
theorem rnc_set {l : List Rt} {i : Nat} {x y : Rt} (h : l[i]? = some x) {j : Nat} (hj : j < 10) {v : Value} (hv : (rnc1 x).set j v = rnc1 y) : (rnc l).set (i * 10 + j) v = rnc (l.set i y) := by
  induction l generalizing i with
  | nil => simp at h
  | cons a l ih =>
    cases i with
    | zero =>
      simp only [List.getElem?_cons_zero, Option.some.injEq] at h
      subst h
      rw [List.set_cons_zero, rnc_cons, rnc_cons, Nat.zero_mul, Nat.zero_add, List.set_append_left _ _ (by exact hj), hv]
    | succ i =>
      simp only [List.getElem?_cons_succ] at h
      rw [List.set_cons_succ, rnc_cons, rnc_cons, List.set_append_right _ _ (by show 10 ≤ _; omega), ← ih h]
      congr 2
      show (i + 1) * 10 + j - 10 = _
      omega
theorem Try.infoRun : (Try.prog.info? 73).map (fun i => (i.zero, i.size, i.bytes)) = some (some (.agg #[.int .i64 0, .int .i64 0, .int .i64 0, .int .i64 0, .int .i64 0, .int .i64 0, .int .i64 0, .slice none 0 0, .int .i64 0, .slice none 0 0]), 10, 112) := by kernel_rfl
abbrev rmO (n fl c : Int) (av ev : Value) : Obj := .cells #[.int .i64 n, .int .i64 fl, .int .i64 c, av, ev] 66 (0, 0)
/-- The document's machine in memory. -/
structure Rm (tg : Nat → Ug) (w : World) (rb n : Nat) (fl : Int) (R : Rr) (av ev : Value) (L : List Rt) : Prop where
  obj : w.heap[rb]? = some (rmO n fl R.clock av ev)
  tm : tg rb = .mach
  all : w.ownsRow 0 73 10 av L.length (rnc L)
  ta : ∀ b, av.ownBlock = some b → tg b = .all
  ends : OwnI 0 w ev (R.ends.map fun i => ((i : Nat) : Int))
  te : ∀ b, ev.ownBlock = some b → tg b = .ends
  map : L.map (·.1) = R.all
  row : ∀ (i : Nat) (x : Rt), L[i]? = some x → OwnO 0 w x.2.1 x.1.t.ops ∧ OwnI 0 w x.2.2 x.1.ts ∧ (∀ b, x.2.1.ownBlock = some b → tg b = .ops i) ∧ (∀ b, x.2.2.ownBlock = some b → tg b = .ats i)
  lt : ∀ b, tg b ≠ .out → b < w.heap.size
theorem Rm.off {tg : Nat → Ug} {w w' : World} {rb n : Nat} {fl : Int} {R : Rr} {av ev : Value} {L : List Rt} (h : Rm tg w rb n fl R av ev L) {S : Nat → Prop} (hs : Same S w w') (hd : ∀ b, S b → tg b = .out) : Rm tg w' rb n fl R av ev L := by
  have hn : ∀ {b : Nat} {T : Ug}, tg b = T → T ≠ .out → ¬ S b := fun e1 e2 hb => e2 (e1.symm.trans (hd _ hb))
  refine ⟨(hs.block rb (lt_of_heap h.obj) (hn h.tm (fun e => by cases e))).trans h.obj, h.tm, row_kept h.all hs (fun b hb => hn (h.ta b hb) (fun e => by cases e)), h.ta, row_kept h.ends hs (fun b hb => hn (h.te b hb) (fun e => by cases e)), h.te, h.map, fun i x hx => ?_, fun b hb => Nat.lt_of_lt_of_le (h.lt b hb) hs.size⟩
  obtain ⟨h1, h2, h3, h4⟩ := h.row i x hx
  exact ⟨row_kept h1 hs (fun b hb => hn (h3 b hb) (fun e => by cases e)), row_kept h2 hs (fun b hb => hn (h4 b hb) (fun e => by cases e)), h3, h4⟩
theorem Rm.on {tg : Nat → Ug} {w w' : World} {rb n : Nat} {fl : Int} {R : Rr} {av ev : Value} {L : List Rt} (h : Rm tg w rb n fl R av ev L) (k : Kept w w') : Rm tg w' rb n fl R av ev L := h.off k fun _ e => e.elim
theorem OwnI.at {base : Nat} {w : World} {v : Value} {l : List Int} (h : OwnI base w v l) : ∃ a cap, v = .slice a l.length cap ∧ IntsAt w a l := by
  obtain ⟨a, cap, rfl, -, -, -⟩ := row_shape h
  refine ⟨a, cap, rfl, fun i x hx => ?_⟩
  obtain ⟨b, rfl, -, hb, c⟩ := row_cell h (j := i) (u := .int .i64 x) (by rw [List.getElem?_map, hx]; rfl)
  exact ⟨b, 0, rfl, hb, by rw [Nat.zero_add]; exact c⟩
/-- As it is read. -/
theorem Rm.rd {tg : Nat → Ug} {w : World} {rb n : Nat} {fl : Int} {R : Rr} {av ev : Value} {L : List Rt} (h : Rm tg w rb n fl R av ev L) : ∃ a cap, av = .slice a R.all.length cap ∧ Rd w rb n fl R a cap ev := by
  obtain ⟨a, cap, e, -, -, -⟩ := row_shape h.all
  have hl : R.all.length = L.length := by rw [← h.map, List.length_map]
  refine ⟨a, cap, by rw [hl]; exact e, ?_⟩
  have ho := h.obj
  refine ⟨(cell_of ho 0).trans rfl, (cell_of ho 1).trans rfl, (cell_of ho 2).trans rfl, (cell_of ho 3).trans (by rw [hl, ← e]; rfl), (cell_of ho 4).trans rfl, lt_of_heap ho, fun i r hr => ?_⟩
  rw [← h.map, List.getElem?_map] at hr
  cases hx : L[i]? with
  | none => rw [hx] at hr; cases hr
  | some x =>
    rw [hx] at hr
    simp only [Option.map_some, Option.some.injEq] at hr
    subst hr
    obtain ⟨h1, h2, -, -⟩ := h.row i x hx
    obtain ⟨oa, oc, eo, hop, -, -⟩ := OwnO.ops h1
    obtain ⟨ta, tc, et, hts⟩ := OwnI.at h2
    have hall := h.all
    rw [e] at hall
    have hc : ∀ (j : Nat) (u : Value), j < 10 → (rnc1 x)[j]? = some u → ∃ b, a = some ⟨b, 0, none⟩ ∧ b < w.heap.size ∧ w.cell? ⟨b, 0 + i * 10 + j, none⟩ = some u := fun j u hj hu => by
      obtain ⟨b, e1, -, hb, c⟩ := row_cell hall (j := i * 10 + j) (u := u) (by rw [rnc_get hx j hj]; exact hu)
      exact ⟨b, e1, hb, by rw [Nat.zero_add]; exact c⟩
    obtain ⟨b, e1, hb, c0⟩ := hc 0 _ (by decide) rfl
    have hc' : ∀ (j : Nat) (u : Value), j < 10 → (rnc1 x)[j]? = some u → w.cell? ⟨b, 0 + i * 10 + j, none⟩ = some u := fun j u hj hu => by
      obtain ⟨b', e2, -, c⟩ := hc j u hj hu
      rw [e1] at e2
      cases e2
      exact c
    exact ⟨b, 0, oa, oc, ta, tc, e1, hb, ⟨c0, hc' 1 _ (by decide) rfl, hc' 2 _ (by decide) rfl, hc' 3 _ (by decide) rfl, hc' 4 _ (by decide) rfl, hc' 5 _ (by decide) rfl, hc' 6 _ (by decide) rfl, by rw [← eo]; exact hc' 7 _ (by decide) rfl, hc' 8 _ (by decide) rfl, by rw [← et]; exact hc' 9 _ (by decide) rfl, hop, hts⟩⟩
/-- Blocks of different kinds. -/
theorem Rm.ne {tg : Nat → Ug} {b c : Nat} {T U : Ug} (h1 : tg b = T) (h2 : tg c = U) (h : T ≠ U) : b ≠ c := fun e => h (by rw [← h1, ← h2, e])
theorem Rm.clock {tg : Nat → Ug} {w : World} {rb n : Nat} {fl : Int} {R : Rr} {av ev : Value} {L : List Rt} (h : Rm tg w rb n fl R av ev L) (c : Int) : Rm tg (w.setCell ⟨rb, 2, none⟩ (.int .i64 c)) rb n fl (rTick R c) av ev L := by
  have hs : Same (fun b => b = rb) w (w.setCell ⟨rb, 2, none⟩ (.int .i64 c)) := Same.setCell (S := fun b => b = rb) (Same.refl _ w) ⟨rb, 2, none⟩ (.inr rfl) _
  refine ⟨by have h9 := setCell_at h.obj 2 (.int .i64 c); exact h9.trans rfl, h.tm, row_kept h.all hs (fun b hb => Rm.ne (h.ta b hb) h.tm (fun e => by cases e)), h.ta, row_kept h.ends hs (fun b hb => Rm.ne (h.te b hb) h.tm (fun e => by cases e)), h.te, h.map, fun i x hx => ?_, fun b hb => Nat.lt_of_lt_of_le (h.lt b hb) hs.size⟩
  obtain ⟨h1, h2, h3, h4⟩ := h.row i x hx
  exact ⟨row_kept h1 hs (fun b hb => Rm.ne (h3 b hb) h.tm (fun e => by cases e)), row_kept h2 hs (fun b hb => Rm.ne (h4 b hb) h.tm (fun e => by cases e)), h3, h4⟩
theorem row_put {base : Nat} {w : World} {e : TypeId} {n m : Nat} {v : Value} {l : List Value} (h : w.ownsRow base e n v m l) {g : Nat} (hg : v.ownBlock = some g) {j : Nat} (_hj : j < l.length) (u : Value) : (w.setCell ⟨g, j, none⟩ u).ownsRow base e n v m (l.set j u) := by
  rcases h.2 with ⟨rfl, h0⟩ | ⟨g', cap, cur, rfl, hb, hc, h1, h2, h3, h4⟩
  · cases hg
  · cases hg
    refine ⟨by rw [List.length_set]; exact h.1, .inr ⟨g', cap, cur.setIfInBounds j u, rfl, hb, setCell_at hc j u, h1, h2, by simpa using h3, ?_⟩⟩
    rw [Array.toList_setIfInBounds, ← h4, List.take_set]
/-- A run's cell is stored. -/
theorem Rm.cell {tg : Nat → Ug} {w : World} {rb n : Nat} {fl : Int} {R : Rr} {av ev : Value} {L : List Rt} (h : Rm tg w rb n fl R av ev L) {g : Nat} (hg : av.ownBlock = some g) {i : Nat} {x : Rt} (hx : L[i]? = some x) {j : Nat} (hj : j < 10) {v : Value} {r' : Rn} (hv : (rnc1 x).set j v = rnc1 (r', x.2)) (ho : r'.t.ops = x.1.t.ops) (ht : r'.ts = x.1.ts) :
    Rm tg (w.setCell ⟨g, i * 10 + j, none⟩ v) rb n fl { R with all := R.all.set i r' } av ev (L.set i (r', x.2)) := by
  have hs : Same (fun b => b = g) w (w.setCell ⟨g, i * 10 + j, none⟩ v) := Same.setCell (S := fun b => b = g) (Same.refl _ w) ⟨g, i * 10 + j, none⟩ (.inr rfl) _
  have hga := h.ta g hg
  have hil := (List.getElem?_eq_some_iff.1 hx).1
  refine ⟨(hs.block rb (lt_of_heap h.obj) (fun e => Rm.ne h.tm hga (fun e => by cases e) e)).trans h.obj, h.tm, ?_, h.ta, row_kept h.ends hs (fun b hb => Rm.ne (h.te b hb) hga (fun e => by cases e)), h.te, ?_, fun q y hy => ?_, fun b hb => Nat.lt_of_lt_of_le (h.lt b hb) hs.size⟩
  · rw [List.length_set, ← rnc_set hx hj hv]
    exact row_put h.all hg (by rw [length_rnc]; omega) v
  · rw [List.map_set, h.map]
  · have hy2 : ∃ z, L[q]? = some z ∧ y.2 = z.2 ∧ y.1.t.ops = z.1.t.ops ∧ y.1.ts = z.1.ts := by
      rw [List.getElem?_set] at hy
      split at hy
      · rename_i e
        subst e
        first | (rw [if_pos hil] at hy; cases hy) | cases hy
        exact ⟨x, hx, rfl, ho, ht⟩
      · exact ⟨y, hy, rfl, rfl, rfl⟩
    obtain ⟨z, e0, e1, e2, e3⟩ := hy2
    obtain ⟨h1, h2, h3, h4⟩ := h.row q z e0
    rw [e1, e2, e3]
    exact ⟨row_kept h1 hs (fun b hb => Rm.ne (h3 b hb) hga (fun e => by cases e)), row_kept h2 hs (fun b hb => Rm.ne (h4 b hb) hga (fun e => by cases e)), h3, h4⟩
/-- The tags have grown. -/
def Up (tg : Nat → Ug) (w : World) (tg' : Nat → Ug) : Prop := (∀ b, tg b ≠ .out → tg' b = tg b) ∧ ∀ b, tg' b ≠ .out → tg b ≠ .out ∨ w.heap.size ≤ b
theorem Up.refl (tg : Nat → Ug) (w : World) : Up tg w tg := ⟨fun _ _ => rfl, fun _ h => .inl h⟩
theorem Up.trans {tg tg' tg'' : Nat → Ug} {w w' : World} (h : Up tg w tg') (hw : w.heap.size ≤ w'.heap.size) (h' : Up tg' w' tg'') : Up tg w tg'' :=
  ⟨fun b hb => (h'.1 b (by rw [h.1 b hb]; exact hb)).trans (h.1 b hb), fun b hb => (h'.2 b hb).elim (h.2 b) fun e => .inr (by omega)⟩
theorem tag_up {tg : Nat → Ug} {w W' w4 : World} {X v4 : Value} {T : Ug} (hlt : ∀ b, tg b ≠ .out → b < w.heap.size) (hw : w.heap.size ≤ W'.heap.size) (hw4 : W'.heap.size ≤ w4.heap.size) (hX : ∀ b, X.ownBlock = some b → tg b = T) (hl : ∀ b, v4.ownBlock = some b → X.ownBlock = some b ∨ W'.heap.size ≤ b) (hv : ∀ b, v4.ownBlock = some b → b < w4.heap.size) :
    ∃ tg', (∀ b, v4.ownBlock = some b → tg' b = T) ∧ Up tg w tg' ∧ ∀ b, tg' b ≠ .out → b < w4.heap.size := by
  refine ⟨reu tg (fun b => v4.ownBlock = some b) T, fun b hb => reu_in (X := fun b => v4.ownBlock = some b) hb, ⟨fun b hb => ?_, fun b hb => ?_⟩, fun b hb => ?_⟩
  · by_cases h1 : v4.ownBlock = some b
    · rw [reu_in (X := fun b => v4.ownBlock = some b) h1]
      rcases hl b h1 with h2 | h2
      · exact (hX b h2).symm
      · have := hlt b hb
        omega
    · exact reu_no (X := fun b => v4.ownBlock = some b) h1
  · by_cases h1 : v4.ownBlock = some b
    · by_cases h0 : tg b = .out
      · rcases hl b h1 with h2 | h2
        · rw [reu_in (X := fun b => v4.ownBlock = some b) h1, ← hX b h2] at hb
          exact .inl hb
        · exact .inr (by omega)
      · exact .inl h0
    · rw [reu_no (X := fun b => v4.ownBlock = some b) h1] at hb
      exact .inl hb
  · by_cases h1 : v4.ownBlock = some b
    · exact hv b h1
    · rw [reu_no (X := fun b => v4.ownBlock = some b) h1] at hb
      have := hlt b hb
      omega
/-- The document's machine on its way. -/
structure Rq (tg : Nat → Ug) (w wx : World) (rb n : Nat) (fl : Int) (R : Rr) (av ev : Value) (L : List Rt) : Prop where
  ex : ∃ tg', Rm tg' wx rb n fl R av ev L ∧ Up tg w tg'
  same : Same (fun b => tg b ≠ .out) w wx
theorem Rq.start {tg : Nat → Ug} {w : World} {rb n : Nat} {fl : Int} {R : Rr} {av ev : Value} {L : List Rt} (h : Rm tg w rb n fl R av ev L) : Rq tg w w rb n fl R av ev L := ⟨⟨tg, h, Up.refl _ _⟩, Same.refl _ _⟩
theorem Rq.on {tg : Nat → Ug} {w wx wy : World} {rb n : Nat} {fl : Int} {R : Rr} {av ev : Value} {L : List Rt} (h : Rq tg w wx rb n fl R av ev L) (k : Kept wx wy) : Rq tg w wy rb n fl R av ev L := by
  obtain ⟨tg', h1, h2⟩ := h.ex
  exact ⟨⟨tg', h1.on k, h2⟩, h.same.trans k fun _ _ e => e.elim⟩
theorem Rq.rd {tg : Nat → Ug} {w wx : World} {rb n : Nat} {fl : Int} {R : Rr} {av ev : Value} {L : List Rt} (h : Rq tg w wx rb n fl R av ev L) : ∃ a cap, av = .slice a R.all.length cap ∧ Rd wx rb n fl R a cap ev := by
  obtain ⟨tg', h1, -⟩ := h.ex
  exact h1.rd
theorem Rq.old {tg tg' : Nat → Ug} {w : World} (hu : Up tg w tg') {b : Nat} {T : Ug} (h : tg' b = T) (hT : T ≠ .out) : b < w.heap.size → tg b ≠ .out := fun hb e => by
  rcases hu.2 b (by rw [h]; exact hT) with h1 | h1
  · exact h1 e
  · omega
theorem Rq.clock {tg : Nat → Ug} {w wx : World} {rb n : Nat} {fl : Int} {R : Rr} {av ev : Value} {L : List Rt} (h : Rq tg w wx rb n fl R av ev L) (c : Int) : Rq tg w (wx.setCell ⟨rb, 2, none⟩ (.int .i64 c)) rb n fl (rTick R c) av ev L := by
  obtain ⟨tg', h1, h2⟩ := h.ex
  refine ⟨⟨tg', h1.clock c, h2⟩, h.same.trans (Same.setCell (S := fun b => b = rb) (Same.refl _ wx) ⟨rb, 2, none⟩ (.inr rfl) _) fun b hb e => ?_⟩
  subst e
  exact Rq.old h2 h1.tm (fun e => by cases e) hb
theorem Rq.cell {tg : Nat → Ug} {w wx : World} {rb n : Nat} {fl : Int} {R : Rr} {av ev : Value} {L : List Rt} (h : Rq tg w wx rb n fl R av ev L) {g : Nat} (hg : av.ownBlock = some g) {i : Nat} {x : Rt} (hx : L[i]? = some x) {j : Nat} (hj : j < 10) {v : Value} (r' : Rn) (hv : (rnc1 x).set j v = rnc1 (r', x.2)) (ho : r'.t.ops = x.1.t.ops) (ht : r'.ts = x.1.ts) :
    Rq tg w (wx.setCell ⟨g, i * 10 + j, none⟩ v) rb n fl { R with all := R.all.set i r' } av ev (L.set i (r', x.2)) := by
  obtain ⟨tg', h1, h2⟩ := h.ex
  refine ⟨⟨tg', h1.cell hg hx hj hv ho ht, h2⟩, h.same.trans (Same.setCell (S := fun b => b = g) (Same.refl _ wx) ⟨g, i * 10 + j, none⟩ (.inr rfl) _) fun b hb e => ?_⟩
  subst e
  exact Rq.old h2 (h1.ta b hg) (fun e => by cases e) hb
theorem Rm.up {tg tg' : Nat → Ug} {w : World} {rb n : Nat} {fl : Int} {R : Rr} {av ev : Value} {L : List Rt} (_h : Rm tg w rb n fl R av ev L) (hu : ∀ b, tg b ≠ .out → tg' b = tg b) {b : Nat} {T : Ug} (hb : tg b = T) (hT : T ≠ .out) : tg' b = T := (hu b (by rw [hb]; exact hT)).trans hb
/-- One end more. -/
theorem Rq.addEnd {tg : Nat → Ug} {w wx W' w4 : World} {rb n : Nat} {fl : Int} {R : Rr} {av ev v4 : Value} {L : List Rt} (h : Rq tg w wx rb n fl R av ev L) (k : Kept wx W') {i : Nat} (ho : OwnI 0 w4 v4 ((R.ends.map fun i => ((i : Nat) : Int)) ++ [(i : Int)])) (hs : Same (fun b => ev.ownBlock = some b) W' w4) (hl : ∀ b, v4.ownBlock = some b → ev.ownBlock = some b ∨ W'.heap.size ≤ b) :
    (w4.heap[rb]? = some (rmO n fl R.clock av ev) ∧ ∃ a n c, v4 = .slice a n c) ∧ Rq tg w (w4.setCell ⟨rb, 4, none⟩ v4) rb n fl { R with ends := R.ends ++ [i] } av v4 L := by
  obtain ⟨tg1, h0, h2⟩ := h.ex
  have h1 := h0.on k
  have hws : wx.heap.size ≤ W'.heap.size := k.size
  obtain ⟨tg', t1, t2, t3⟩ := tag_up (tg := tg1) (w := W') (W' := W') (w4 := w4) (X := ev) (v4 := v4) (T := .ends) h1.lt (Nat.le_refl _) hs.size h1.te hl (fun b hb => by obtain ⟨-, cur, hc⟩ := row_block ho hb; exact lt_of_heap hc)
  have hset : Same (fun b => b = rb) w4 (w4.setCell ⟨rb, 4, none⟩ v4) := Same.setCell (S := fun b => b = rb) (Same.refl _ w4) ⟨rb, 4, none⟩ (.inr rfl) v4
  have hS : Same (fun b => ev.ownBlock = some b ∨ b = rb) W' (w4.setCell ⟨rb, 4, none⟩ v4) := by
    exact (hs.mono fun _ _ e => .inl e).trans hset fun b hb e => .inr e
  have hn : ∀ {b : Nat} {T : Ug}, tg1 b = T → T ≠ .ends → T ≠ .mach → ¬ (ev.ownBlock = some b ∨ b = rb) := fun e1 e2 e3 hb => by
    rcases hb with hb | hb
    · exact e2 (e1.symm.trans (h1.te _ hb))
    · subst hb
      exact e3 (e1.symm.trans h1.tm)
  have ho4 : w4.heap[rb]? = some (rmO n fl R.clock av ev) := (hs.block rb (lt_of_heap h1.obj) (fun e => by have := (h1.te _ e).symm.trans h1.tm; cases this)).trans h1.obj
  obtain ⟨a4, c4, e4, -⟩ := row_shape ho
  refine ⟨⟨ho4, a4, _, c4, e4⟩, ⟨⟨tg', ⟨by have h9 := setCell_at ho4 4 v4; exact h9.trans rfl, h1.up t2.1 h1.tm (fun e => by cases e), row_kept h1.all hS (fun b hb => hn (h1.ta b hb) (fun e => by cases e) (fun e => by cases e)), fun b hb => h1.up t2.1 (h1.ta b hb) (fun e => by cases e), ?_, t1, h1.map, fun q x hx => ?_, fun b hb => ?_⟩, ?_⟩, ?_⟩⟩
  · refine row_kept (l := _) (by rw [List.map_append]; exact ho) hset fun b hb e => ?_
    subst e
    have := (t1 _ hb).symm.trans (h1.up t2.1 h1.tm (fun e => by cases e))
    cases this
  · obtain ⟨r1, r2, r3, r4⟩ := h1.row q x hx
    exact ⟨row_kept r1 hS (fun b hb => hn (r3 b hb) (fun e => by cases e) (fun e => by cases e)), row_kept r2 hS (fun b hb => hn (r4 b hb) (fun e => by cases e) (fun e => by cases e)), fun b hb => h1.up t2.1 (r3 b hb) (fun e => by cases e), fun b hb => h1.up t2.1 (r4 b hb) (fun e => by cases e)⟩
  · exact Nat.lt_of_lt_of_le (t3 b hb) hset.size
  · exact h2.trans (w' := W') (Nat.le_trans h.same.size hws) t2
  · refine (h.on k).same.trans hS fun b hb e => ?_
    rcases e with e | e
    · exact Rq.old h2 (h1.te _ e) (fun e => by cases e) hb
    · subst e
      exact Rq.old h2 h1.tm (fun e => by cases e) hb
/-- One transaction more. -/
theorem Rq.addRun {tg : Nat → Ug} {w wx W' w4 : World} {rb n : Nat} {fl : Int} {R : Rr} {av ev v4 : Value} {L : List Rt} (h : Rq tg w wx rb n fl R av ev L) (k : Kept wx W') {r : Rn} (hr : r.t.ops = [] ∧ r.ts = []) (ho : w4.ownsRow 0 73 10 v4 (L.length + 1) (rnc (L ++ [(r, .slice none 0 0, .slice none 0 0)]))) (hs : Same (fun b => av.ownBlock = some b) W' w4) (hl : ∀ b, v4.ownBlock = some b → av.ownBlock = some b ∨ W'.heap.size ≤ b) :
    (w4.heap[rb]? = some (rmO n fl R.clock av ev) ∧ ∃ a n c, v4 = .slice a n c) ∧ Rq tg w (w4.setCell ⟨rb, 3, none⟩ v4) rb n fl { R with all := R.all ++ [r] } v4 ev (L ++ [(r, .slice none 0 0, .slice none 0 0)]) := by
  obtain ⟨tg1, h0, h2⟩ := h.ex
  have h1 := h0.on k
  have hws : wx.heap.size ≤ W'.heap.size := k.size
  obtain ⟨tg', t1, t2, t3⟩ := tag_up (tg := tg1) (w := W') (W' := W') (w4 := w4) (X := av) (v4 := v4) (T := .all) h1.lt (Nat.le_refl _) hs.size h1.ta hl (fun b hb => by obtain ⟨-, cur, hc⟩ := row_block ho hb; exact lt_of_heap hc)
  have hset : Same (fun b => b = rb) w4 (w4.setCell ⟨rb, 3, none⟩ v4) := Same.setCell (S := fun b => b = rb) (Same.refl _ w4) ⟨rb, 3, none⟩ (.inr rfl) v4
  have hS : Same (fun b => av.ownBlock = some b ∨ b = rb) W' (w4.setCell ⟨rb, 3, none⟩ v4) := by
    exact (hs.mono fun _ _ e => .inl e).trans hset fun b hb e => .inr e
  have hn : ∀ {b : Nat} {T : Ug}, tg1 b = T → T ≠ .all → T ≠ .mach → ¬ (av.ownBlock = some b ∨ b = rb) := fun e1 e2 e3 hb => by
    rcases hb with hb | hb
    · exact e2 (e1.symm.trans (h1.ta _ hb))
    · subst hb
      exact e3 (e1.symm.trans h1.tm)
  have ho4 : w4.heap[rb]? = some (rmO n fl R.clock av ev) := (hs.block rb (lt_of_heap h1.obj) (fun e => by have := (h1.ta _ e).symm.trans h1.tm; cases this)).trans h1.obj
  obtain ⟨a4, c4, e4, -⟩ := row_shape ho
  refine ⟨⟨ho4, a4, _, c4, e4⟩, ⟨⟨tg', ⟨by have h9 := setCell_at ho4 3 v4; exact h9.trans rfl, h1.up t2.1 h1.tm (fun e => by cases e), ?_, t1, row_kept h1.ends hS (fun b hb => hn (h1.te b hb) (fun e => by cases e) (fun e => by cases e)), fun b hb => h1.up t2.1 (h1.te b hb) (fun e => by cases e), by rw [List.map_append, h1.map]; rfl, fun q x hx => ?_, fun b hb => ?_⟩, ?_⟩, ?_⟩⟩
  · rw [List.length_append]
    refine row_kept ho hset fun b hb e => ?_
    subst e
    have := (t1 _ hb).symm.trans (h1.up t2.1 h1.tm (fun e => by cases e))
    cases this
  · by_cases hq : q < L.length
    · rw [List.getElem?_append_left hq] at hx
      obtain ⟨r1, r2, r3, r4⟩ := h1.row q x hx
      exact ⟨row_kept r1 hS (fun b hb => hn (r3 b hb) (fun e => by cases e) (fun e => by cases e)), row_kept r2 hS (fun b hb => hn (r4 b hb) (fun e => by cases e) (fun e => by cases e)), fun b hb => h1.up t2.1 (r3 b hb) (fun e => by cases e), fun b hb => h1.up t2.1 (r4 b hb) (fun e => by cases e)⟩
    · rw [List.getElem?_append_right (by omega), List.getElem?_singleton] at hx
      split at hx
      · cases hx
        have y1 : OwnO 0 (w4.setCell ⟨rb, 3, none⟩ v4) (.slice none 0 0) r.t.ops := by rw [hr.1]; exact ⟨rfl, .inl ⟨rfl, rfl⟩⟩
        have y2 : OwnI 0 (w4.setCell ⟨rb, 3, none⟩ v4) (.slice none 0 0) r.ts := by rw [hr.2]; exact ⟨rfl, .inl ⟨rfl, rfl⟩⟩
        have y3 : ∀ (T : Ug) (b : Nat), (Value.slice none 0 0).ownBlock = some b → tg' b = T := fun T b hb => by cases hb
        exact ⟨y1, y2, y3 _, y3 _⟩
      · cases hx
  · exact Nat.lt_of_lt_of_le (t3 b hb) hset.size
  · exact h2.trans (w' := W') (Nat.le_trans h.same.size hws) t2
  · refine (h.on k).same.trans hS fun b hb e => ?_
    rcases e with e | e
    · exact Rq.old h2 (h1.ta _ e) (fun e => by cases e) hb
    · subst e
      exact Rq.old h2 h1.tm (fun e => by cases e) hb
/-- One operation more. -/
theorem Rq.addOp {tg : Nat → Ug} {w wx W' w4 : World} {rb n : Nat} {fl : Int} {R : Rr} {av ev v4 : Value} {L : List Rt} (h : Rq tg w wx rb n fl R av ev L) (k : Kept wx W') {g : Nat} (hg : av.ownBlock = some g) {i : Nat} {x : Rt} (hx : L[i]? = some x) {r' : Rn} {o : OpM} (hv : ∀ v, (rnc1 x).set 7 v = rnc1 (r', v, x.2.2)) (he : r'.t.ops = x.1.t.ops ++ [o] ∧ r'.ts = x.1.ts) (ho : OwnO 0 w4 v4 (x.1.t.ops ++ [o])) (hs : Same (fun b => x.2.1.ownBlock = some b) W' w4) (hl : ∀ b, v4.ownBlock = some b → x.2.1.ownBlock = some b ∨ W'.heap.size ≤ b) :
    (w4.heap[rb]? = some (rmO n fl R.clock av ev) ∧ w4.ownsRow 0 73 10 av L.length (rnc L) ∧ ∃ a n c, v4 = .slice a n c) ∧ Rq tg w (w4.setCell ⟨g, i * 10 + 7, none⟩ v4) rb n fl { R with all := R.all.set i r' } av ev (L.set i (r', v4, x.2.2)) := by
  obtain ⟨tg1, h0, h2⟩ := h.ex
  have h1 := h0.on k
  have hws : wx.heap.size ≤ W'.heap.size := k.size
  obtain ⟨x1, x2, x3, x4⟩ := h1.row i x hx
  have hil := (List.getElem?_eq_some_iff.1 hx).1
  have hga := h1.ta g hg
  obtain ⟨tg', t1, t2, t3⟩ := tag_up (tg := tg1) (w := W') (W' := W') (w4 := w4) (X := x.2.1) (v4 := v4) (T := .ops i) h1.lt (Nat.le_refl _) hs.size x3 hl (fun b hb => by obtain ⟨-, cur, hc⟩ := row_block ho hb; exact lt_of_heap hc)
  have hset : Same (fun b => b = g) w4 (w4.setCell ⟨g, i * 10 + 7, none⟩ v4) := Same.setCell (S := fun b => b = g) (Same.refl _ w4) ⟨g, i * 10 + 7, none⟩ (.inr rfl) v4
  have hS : Same (fun b => x.2.1.ownBlock = some b ∨ b = g) W' (w4.setCell ⟨g, i * 10 + 7, none⟩ v4) := by
    exact (hs.mono fun _ _ e => .inl e).trans hset fun b hb e => .inr e
  have hT : ∀ b, x.2.1.ownBlock = some b → tg1 b = .ops i := x3
  have hn : ∀ {b : Nat} {T : Ug}, tg1 b = T → T ≠ .ops i → T ≠ .all → ¬ (x.2.1.ownBlock = some b ∨ b = g) := fun e1 e2 e3 hb => by
    rcases hb with hb | hb
    · exact e2 (e1.symm.trans (hT _ hb))
    · subst hb
      exact e3 (e1.symm.trans hga)
  have hrb : ¬ x.2.1.ownBlock = some rb := fun e => by have := (hT _ e).symm.trans h1.tm; cases this
  have ho4 : w4.heap[rb]? = some (rmO n fl R.clock av ev) := (hs.block rb (lt_of_heap h1.obj) hrb).trans h1.obj
  have ha4 : w4.ownsRow 0 73 10 av L.length (rnc L) := row_kept h1.all hs fun b hb e => by have := (hT _ e).symm.trans (h1.ta b hb); cases this
  obtain ⟨a4, c4, e4, -⟩ := row_shape ho
  refine ⟨⟨ho4, ha4, a4, _, c4, e4⟩, ⟨⟨tg', ⟨(hset.block rb (lt_of_heap ho4) (fun e => Rm.ne h1.tm hga (fun e => by cases e) e)).trans ho4, h1.up t2.1 h1.tm (fun e => by cases e), ?_, fun b hb => h1.up t2.1 (h1.ta b hb) (fun e => by cases e), row_kept h1.ends hS (fun b hb => hn (h1.te b hb) (fun e => by cases e) (fun e => by cases e)), fun b hb => h1.up t2.1 (h1.te b hb) (fun e => by cases e), by rw [List.map_set, h1.map], fun q y hy => ?_, fun b hb => ?_⟩, ?_⟩, ?_⟩⟩
  · rw [List.length_set, ← rnc_set hx (by decide) (hv v4)]
    exact row_put ha4 hg (by rw [length_rnc]; omega) v4
  · rw [List.getElem?_set] at hy
    split at hy
    · rename_i e
      subst e
      first | (rw [if_pos hil] at hy; cases hy) | cases hy
      simp only
      rw [he.1, he.2]
      have hnew : OwnO 0 (w4.setCell ⟨g, i * 10 + 7, none⟩ v4) v4 (x.1.t.ops ++ [o]) := row_kept ho hset fun b hb e => by
        subst e
        have := (t1 _ hb).symm.trans (h1.up t2.1 hga (fun e => by cases e))
        cases this
      exact ⟨hnew, row_kept x2 hS (fun b hb => hn (x4 b hb) (fun e => by cases e) (fun e => by cases e)), t1, fun b hb => h1.up t2.1 (x4 b hb) (fun e => by cases e)⟩
    · rename_i e
      obtain ⟨r1, r2, r3, r4⟩ := h1.row q y hy
      exact ⟨row_kept r1 hS (fun b hb => hn (r3 b hb) (fun e9 => by cases e9 <;> exact e rfl) (fun e => by cases e)), row_kept r2 hS (fun b hb => hn (r4 b hb) (fun e9 => by cases e9 <;> exact e rfl) (fun e => by cases e)), fun b hb => h1.up t2.1 (r3 b hb) (fun e => by cases e), fun b hb => h1.up t2.1 (r4 b hb) (fun e => by cases e)⟩
  · exact Nat.lt_of_lt_of_le (t3 b hb) hset.size
  · exact h2.trans (w' := W') (Nat.le_trans h.same.size hws) t2
  · refine (h.on k).same.trans hS fun b hb e => ?_
    rcases e with e | e
    · exact Rq.old h2 (hT _ e) (fun e => by cases e) hb
    · subst e
      exact Rq.old h2 hga (fun e => by cases e) hb
/-- One time more. -/
theorem Rq.addAt {tg : Nat → Ug} {w wx W' w4 : World} {rb n : Nat} {fl : Int} {R : Rr} {av ev v4 : Value} {L : List Rt} (h : Rq tg w wx rb n fl R av ev L) (k : Kept wx W') {g : Nat} (hg : av.ownBlock = some g) {i : Nat} {x : Rt} (hx : L[i]? = some x) {r' : Rn} {c : Int} (hv : ∀ v, (rnc1 x).set 9 v = rnc1 (r', x.2.1, v)) (he : r'.t.ops = x.1.t.ops ∧ r'.ts = x.1.ts ++ [c]) (ho : OwnI 0 w4 v4 (x.1.ts ++ [c])) (hs : Same (fun b => x.2.2.ownBlock = some b) W' w4) (hl : ∀ b, v4.ownBlock = some b → x.2.2.ownBlock = some b ∨ W'.heap.size ≤ b) :
    (w4.heap[rb]? = some (rmO n fl R.clock av ev) ∧ w4.ownsRow 0 73 10 av L.length (rnc L) ∧ ∃ a n c, v4 = .slice a n c) ∧ Rq tg w (w4.setCell ⟨g, i * 10 + 9, none⟩ v4) rb n fl { R with all := R.all.set i r' } av ev (L.set i (r', x.2.1, v4)) := by
  obtain ⟨tg1, h0, h2⟩ := h.ex
  have h1 := h0.on k
  have hws : wx.heap.size ≤ W'.heap.size := k.size
  obtain ⟨x1, x2, x3, x4⟩ := h1.row i x hx
  have hil := (List.getElem?_eq_some_iff.1 hx).1
  have hga := h1.ta g hg
  obtain ⟨tg', t1, t2, t3⟩ := tag_up (tg := tg1) (w := W') (W' := W') (w4 := w4) (X := x.2.2) (v4 := v4) (T := .ats i) h1.lt (Nat.le_refl _) hs.size x4 hl (fun b hb => by obtain ⟨-, cur, hc⟩ := row_block ho hb; exact lt_of_heap hc)
  have hset : Same (fun b => b = g) w4 (w4.setCell ⟨g, i * 10 + 9, none⟩ v4) := Same.setCell (S := fun b => b = g) (Same.refl _ w4) ⟨g, i * 10 + 9, none⟩ (.inr rfl) v4
  have hS : Same (fun b => x.2.2.ownBlock = some b ∨ b = g) W' (w4.setCell ⟨g, i * 10 + 9, none⟩ v4) := by
    exact (hs.mono fun _ _ e => .inl e).trans hset fun b hb e => .inr e
  have hT : ∀ b, x.2.2.ownBlock = some b → tg1 b = .ats i := x4
  have hn : ∀ {b : Nat} {T : Ug}, tg1 b = T → T ≠ .ats i → T ≠ .all → ¬ (x.2.2.ownBlock = some b ∨ b = g) := fun e1 e2 e3 hb => by
    rcases hb with hb | hb
    · exact e2 (e1.symm.trans (hT _ hb))
    · subst hb
      exact e3 (e1.symm.trans hga)
  have hrb : ¬ x.2.2.ownBlock = some rb := fun e => by have := (hT _ e).symm.trans h1.tm; cases this
  have ho4 : w4.heap[rb]? = some (rmO n fl R.clock av ev) := (hs.block rb (lt_of_heap h1.obj) hrb).trans h1.obj
  have ha4 : w4.ownsRow 0 73 10 av L.length (rnc L) := row_kept h1.all hs fun b hb e => by have := (hT _ e).symm.trans (h1.ta b hb); cases this
  obtain ⟨a4, c4, e4, -⟩ := row_shape ho
  refine ⟨⟨ho4, ha4, a4, _, c4, e4⟩, ⟨⟨tg', ⟨(hset.block rb (lt_of_heap ho4) (fun e => Rm.ne h1.tm hga (fun e => by cases e) e)).trans ho4, h1.up t2.1 h1.tm (fun e => by cases e), ?_, fun b hb => h1.up t2.1 (h1.ta b hb) (fun e => by cases e), row_kept h1.ends hS (fun b hb => hn (h1.te b hb) (fun e => by cases e) (fun e => by cases e)), fun b hb => h1.up t2.1 (h1.te b hb) (fun e => by cases e), by rw [List.map_set, h1.map], fun q y hy => ?_, fun b hb => ?_⟩, ?_⟩, ?_⟩⟩
  · rw [List.length_set, ← rnc_set hx (by decide) (hv v4)]
    exact row_put ha4 hg (by rw [length_rnc]; omega) v4
  · rw [List.getElem?_set] at hy
    split at hy
    · rename_i e
      subst e
      first | (rw [if_pos hil] at hy; cases hy) | cases hy
      simp only
      rw [he.1, he.2]
      have hnew : OwnI 0 (w4.setCell ⟨g, i * 10 + 9, none⟩ v4) v4 (x.1.ts ++ [c]) := row_kept ho hset fun b hb e => by
        subst e
        have := (t1 _ hb).symm.trans (h1.up t2.1 hga (fun e => by cases e))
        cases this
      exact ⟨row_kept x1 hS (fun b hb => hn (x3 b hb) (fun e => by cases e) (fun e => by cases e)), hnew, fun b hb => h1.up t2.1 (x3 b hb) (fun e => by cases e), t1⟩
    · rename_i e
      obtain ⟨r1, r2, r3, r4⟩ := h1.row q y hy
      exact ⟨row_kept r1 hS (fun b hb => hn (r3 b hb) (fun e9 => by cases e9 <;> exact e rfl) (fun e => by cases e)), row_kept r2 hS (fun b hb => hn (r4 b hb) (fun e9 => by cases e9 <;> exact e rfl) (fun e => by cases e)), fun b hb => h1.up t2.1 (r3 b hb) (fun e => by cases e), fun b hb => h1.up t2.1 (r4 b hb) (fun e => by cases e)⟩
  · exact Nat.lt_of_lt_of_le (t3 b hb) hset.size
  · exact h2.trans (w' := W') (Nat.le_trans h.same.size hws) t2
  · refine (h.on k).same.trans hS fun b hb e => ?_
    rcases e with e | e
    · exact Rq.old h2 (hT _ e) (fun e => by cases e) hb
    · subst e
      exact Rq.old h2 hga (fun e => by cases e) hb
end Go.Proofs.Ytmghmacgljihcaa
