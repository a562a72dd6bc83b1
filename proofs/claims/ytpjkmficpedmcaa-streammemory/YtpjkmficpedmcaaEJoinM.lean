/- What is proved: plain facts of what join does to a list of holes; no condition. -/
import Derived.Test.YtpjkmficpedmcaaETake
namespace Go.Proofs.Ytpjkmficpedmcaa
open Go.RowKit
set_option maxRecDepth 100000

/-- Holes of a list that come one behind the other lie so. -/
theorem wf_lt {lo N : Int} {L : List Ex} (h : eWF lo N L) {i j : Nat} {a b : Ex} (ha : L[i]? = some a) (hb : L[j]? = some b) (hij : i < j) : a.f + a.c < b.f := by
  induction L generalizing lo i j with
  | nil => simp at ha
  | cons e r ih =>
    obtain ⟨h1, h2, h3, h4⟩ := h
    cases j with
    | zero => omega
    | succ j =>
      simp only [List.getElem?_cons_succ] at hb
      cases i with
      | zero =>
        simp only [List.getElem?_cons_zero, Option.some.injEq] at ha
        subst ha
        have := h4.mem (List.mem_of_getElem? hb)
        omega
      | succ i => exact ih h4 ha hb (by omega)
/-- join under way: the holes ahead of fr lie before y, those from fr to t are in y. -/
structure JI (N : Nat) (L : List Ex) (x : Ex) (fr t : Nat) (y : Ex) : Prop where
  le : fr ≤ t
  len : t ≤ L.length
  before : ∀ i h, i < fr → L[i]? = some h → h.f + h.c < y.f
  cover : ∀ b, (y.f ≤ b ∧ b < y.f + y.c) ↔ (x.f ≤ b ∧ b < x.f + x.c) ∨ ∃ i h, fr ≤ i ∧ i < t ∧ L[i]? = some h ∧ h.f ≤ b ∧ b < h.f + h.c
  y0 : 0 ≤ y.f
  y1 : 1 ≤ y.c
  yN : y.f + y.c ≤ N
  after : ∀ i h, t ≤ i → L[i]? = some h → y.f + y.c ≤ h.f ∨ h.f + h.c = y.f
theorem JI.start {N : Nat} {L : List Ex} {x : Ex} {fr : Nat} (hx : 1 ≤ x.c) (hx0 : 0 ≤ x.f) (hxN : x.f + x.c ≤ N) (hfr : fr ≤ L.length) (hb : ∀ i h, i < fr → L[i]? = some h → h.f + h.c < x.f) (hat : ∀ h, L[fr]? = some h → x.f ≤ h.f + h.c) (hwf : eWF 0 N L) (hno : ∀ e ∈ L, meetb x e = false) : JI N L x fr fr x := by
  refine ⟨Nat.le_refl _, hfr, hb, fun b => ⟨.inl, ?_⟩, hx0, hx, hxN, ?_⟩
  · rintro (h | ⟨i, h, h1, h2, _⟩)
    · exact h
    · omega
  · intro i h hi hh
    have hm := hno h (List.mem_of_getElem? hh)
    have hw := hwf.mem (List.mem_of_getElem? hh)
    simp only [meetb, Bool.and_eq_false_iff, decide_eq_false_iff_not] at hm
    rcases Nat.lt_or_ge fr i with hlt | hge
    · obtain ⟨g, hg⟩ : ∃ g, L[fr]? = some g := ⟨_, List.getElem?_eq_getElem (by have := (List.getElem?_eq_some_iff.1 hh).1; omega)⟩
      have := wf_lt hwf hg hh hlt
      have := hat g hg
      omega
    · obtain rfl : i = fr := by omega
      have := hat h hh
      omega
/-- One hole more. -/
theorem JI.next {N : Nat} {L : List Ex} {x : Ex} {fr t : Nat} {y h : Ex} (j : JI N L x fr t y) (hwf : eWF 0 N L) (hh : L[t]? = some h) (hle : h.f ≤ y.f + y.c) :
    (h.f < y.f ∧ h.f + h.c = y.f ∧ JI N L x fr (t + 1) ⟨h.f, y.f + y.c - h.f⟩) ∨ (y.f < h.f ∧ h.f = y.f + y.c ∧ JI N L x fr (t + 1) ⟨y.f, h.f + h.c - y.f⟩) := by
  have hm := hwf.mem (List.mem_of_getElem? hh)
  have hl := (List.getElem?_eq_some_iff.1 hh).1
  obtain ⟨j1, j2, j3, j4, j5, j6, j7, j8⟩ := j
  have cov : ∀ b, (∃ i g, fr ≤ i ∧ i < t + 1 ∧ L[i]? = some g ∧ g.f ≤ b ∧ b < g.f + g.c) ↔ (∃ i g, fr ≤ i ∧ i < t ∧ L[i]? = some g ∧ g.f ≤ b ∧ b < g.f + g.c) ∨ (h.f ≤ b ∧ b < h.f + h.c) := fun b => by
    constructor
    · rintro ⟨i, g, a1, a2, a3, a4⟩
      rcases Nat.lt_or_ge i t with q | q
      · exact .inl ⟨i, g, a1, q, a3, a4⟩
      · obtain rfl : i = t := by omega
        rw [hh] at a3
        cases a3
        exact .inr a4
    · rintro (⟨i, g, a1, a2, a3, a4⟩ | q)
      · exact ⟨i, g, a1, by omega, a3, a4⟩
      · exact ⟨t, h, j1, by omega, hh, q⟩
  rcases j8 t h (Nat.le_refl _) hh with q | q
  · refine .inr ⟨by omega, by omega, ⟨by omega, hl, j3, fun b => ?_, j5, by show 1 ≤ h.f + h.c - y.f; omega, by show y.f + (h.f + h.c - y.f) ≤ _; omega, ?_⟩⟩
    · rw [cov b, ← or_assoc, ← j4 b]
      show y.f ≤ b ∧ b < y.f + (h.f + h.c - y.f) ↔ _
      omega
    · intro i g hi hg
      have := wf_lt hwf hh hg (by omega)
      exact .inl (by show y.f + (h.f + h.c - y.f) ≤ g.f; omega)
  · refine .inl ⟨by omega, q, ⟨by omega, hl, ?_, fun b => ?_, hm.1, by show 1 ≤ y.f + y.c - h.f; omega, by show h.f + (y.f + y.c - h.f) ≤ _; omega, ?_⟩⟩
    · intro i g hi hg
      have := wf_lt hwf hg hh (by omega)
      exact this
    · rw [cov b, ← or_assoc, ← j4 b]
      show h.f ≤ b ∧ b < h.f + (y.f + y.c - h.f) ↔ _
      omega
    · intro i g hi hg
      have h1 := wf_lt hwf hh hg (by omega)
      rcases j8 i g (by omega) hg with q2 | q2
      · exact .inl (by show h.f + (y.f + y.c - h.f) ≤ g.f; omega)
      · have := hwf.mem (List.mem_of_getElem? hg)
        omega
theorem mm_get (b : Int) (L : List Ex) : Mm b L ↔ ∃ (i : Nat) (h : Ex), L[i]? = some h ∧ h.f ≤ b ∧ b < h.f + h.c := by
  constructor
  · rintro ⟨e, he, h⟩
    obtain ⟨i, hi, rfl⟩ := List.mem_iff_getElem.1 he
    exact ⟨i, _, List.getElem?_eq_getElem hi, h⟩
  · rintro ⟨i, h, hi, hb⟩
    exact ⟨h, List.mem_of_getElem? hi, hb⟩
/-- The end. -/
theorem JI.fin {N : Nat} {L : List Ex} {x : Ex} {fr t : Nat} {y : Ex} (j : JI N L x fr t y) (hwf : eWF 0 N L) (hend : ∀ h, L[t]? = some h → y.f + y.c < h.f) :
    eWF 0 N (L.take fr ++ [y] ++ L.drop t) ∧ ∀ b, Mm b (L.take fr ++ [y] ++ L.drop t) ↔ Mm b L ∨ (x.f ≤ b ∧ b < x.f + x.c) := by
  obtain ⟨j1, j2, j3, j4, j5, j6, j7, j8⟩ := j
  constructor
  · have w1 : eWF 0 N (L.take fr) := by
      have h := hwf
      rw [← List.take_append_drop fr L] at h
      obtain ⟨m, h1, _⟩ := wf_append.1 h
      exact h1
    have w2 : eWF (y.f + y.c + 1) N (L.drop t) := by
      have h := hwf
      rw [← List.take_append_drop t L] at h
      obtain ⟨m, _, _, _, h4⟩ := wf_append.1 h
      cases hd : L.drop t with
      | nil => trivial
      | cons e r =>
        rw [hd] at h4
        obtain ⟨q1, q2⟩ := h4
        refine ⟨?_, q2⟩
        have he : L[t]? = some e := by
          have : (L.drop t)[0]? = some e := by rw [hd]; rfl
          rw [List.getElem?_drop] at this
          simpa using this
        have := hend e he
        omega
    rw [List.append_assoc]
    refine wf_append.2 ⟨y.f, w1, j5, ?_, Int.le_refl _, j6, j7, w2⟩
    intro e he
    obtain ⟨i, hi, rfl⟩ := List.mem_iff_getElem.1 he
    rw [List.length_take] at hi
    have := j3 i (L.take fr)[i] (by omega) (by rw [List.getElem_take]; exact List.getElem?_eq_getElem (by omega))
    omega
  · intro b
    rw [mm_append, mm_append, mm_one, j4 b]
    have hL := mm_get b L
    constructor
    · rintro ((q | q | ⟨i, h, a1, a2, a3, a4⟩) | q)
      · exact .inl ((mm_append b (L.take fr) (L.drop fr)).2 (.inl q) |> fun z => by rwa [List.take_append_drop] at z)
      · exact .inr q
      · exact .inl (hL.2 ⟨i, h, a3, a4⟩)
      · exact .inl ((mm_append b (L.take t) (L.drop t)).2 (.inr q) |> fun z => by rwa [List.take_append_drop] at z)
    · rintro (q | q)
      · obtain ⟨i, h, a1, a2⟩ := hL.1 q
        rcases Nat.lt_or_ge i fr with g | g
        · exact .inl (.inl ((mm_get b _).2 ⟨i, h, by rw [List.getElem?_take_of_lt g]; exact a1, a2⟩))
        · rcases Nat.lt_or_ge i t with g2 | g2
          · exact .inl (.inr (.inr ⟨i, h, g, g2, a1, a2⟩))
          · exact .inr ((mm_get b _).2 ⟨i - t, h, by rw [List.getElem?_drop, show t + (i - t) = i by omega]; exact a1, a2⟩)
      · exact .inl (.inr (.inl q))
end Go.Proofs.Ytpjkmficpedmcaa
