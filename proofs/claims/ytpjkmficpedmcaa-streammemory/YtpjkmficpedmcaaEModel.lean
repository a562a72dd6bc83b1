/- What is proved: plain facts of lists of holes: what cutting and joining make of them; that a list of holes is known by its free blocks; no condition. -/
import Derived.Test.YtpjkmficpedmcaaEBase
namespace Go.Proofs.Ytpjkmficpedmcaa
open Go.RowKit

/-- A list of holes, from block lo on, within N blocks: rising, none touching the next. -/
def eWF (lo N : Int) : List Ex → Prop
  | [] => True
  | e :: r => lo ≤ e.f ∧ 1 ≤ e.c ∧ e.f + e.c ≤ N ∧ eWF (e.f + e.c + 1) N r
/-- Block b is free. -/
def Mm (b : Int) (L : List Ex) : Prop := ∃ e ∈ L, e.f ≤ b ∧ b < e.f + e.c

theorem mm_nil (b : Int) : ¬ Mm b [] := fun ⟨e, h, _⟩ => by simp at h
theorem mm_cons (b : Int) (e : Ex) (r : List Ex) : Mm b (e :: r) ↔ (e.f ≤ b ∧ b < e.f + e.c) ∨ Mm b r := by
  constructor
  · rintro ⟨x, hx, h⟩
    rcases List.mem_cons.1 hx with rfl | hx
    · exact .inl h
    · exact .inr ⟨x, hx, h⟩
  · rintro (h | ⟨x, hx, h⟩)
    · exact ⟨e, by simp, h⟩
    · exact ⟨x, by simp [hx], h⟩
theorem mm_append (b : Int) (l r : List Ex) : Mm b (l ++ r) ↔ Mm b l ∨ Mm b r := by
  induction l with
  | nil => simp [mm_nil]
  | cons e l ih => rw [List.cons_append, mm_cons, mm_cons, ih, or_assoc]
theorem mm_one (b : Int) (e : Ex) : Mm b [e] ↔ e.f ≤ b ∧ b < e.f + e.c := by rw [mm_cons]; simp [mm_nil]
theorem eWF.mono {lo lo' N : Int} {L : List Ex} (h : eWF lo N L) (hl : lo' ≤ lo) : eWF lo' N L := by
  cases L with
  | nil => trivial
  | cons e r => exact ⟨Int.le_trans hl h.1, h.2⟩
theorem eWF.mm {lo N : Int} {L : List Ex} (h : eWF lo N L) {b : Int} (hb : Mm b L) : lo ≤ b ∧ b < N := by
  induction L generalizing lo with
  | nil => exact absurd hb (mm_nil b)
  | cons e r ih =>
    obtain ⟨h1, h2, h3, h4⟩ := h
    rcases (mm_cons _ _ _).1 hb with h | h
    · omega
    · have := ih h4 h; omega
theorem eWF.mem {lo N : Int} {L : List Ex} (h : eWF lo N L) {e : Ex} (he : e ∈ L) : lo ≤ e.f ∧ 1 ≤ e.c ∧ e.f + e.c ≤ N := by
  induction L generalizing lo with
  | nil => simp at he
  | cons x r ih =>
    obtain ⟨h1, h2, h3, h4⟩ := h
    rcases List.mem_cons.1 he with rfl | he
    · exact ⟨h1, h2, h3⟩
    · have := ih h4 he; omega
/-- Two parts. -/
theorem wf_append {lo N : Int} {A B : List Ex} : eWF lo N (A ++ B) ↔ ∃ m, eWF lo N A ∧ lo ≤ m ∧ (∀ e ∈ A, e.f + e.c + 1 ≤ m) ∧ eWF m N B := by
  induction A generalizing lo with
  | nil => exact ⟨fun h => ⟨lo, trivial, Int.le_refl _, by simp, h⟩, fun ⟨m, _, h, _, hB⟩ => hB.mono h⟩
  | cons e r ih =>
    constructor
    · rintro ⟨h1, h2, h3, h4⟩
      obtain ⟨m, q1, q2, q3, q4⟩ := ih.1 h4
      refine ⟨m, ⟨h1, h2, h3, q1⟩, by omega, ?_, q4⟩
      intro x hx
      rcases List.mem_cons.1 hx with rfl | hx
      · exact q2
      · exact q3 x hx
    · rintro ⟨m, ⟨h1, h2, h3, h4⟩, q2, q3, q4⟩
      exact ⟨h1, h2, h3, ih.2 ⟨m, h4, q3 e (by simp), fun x hx => q3 x (by simp [hx]), q4⟩⟩
/-- A list of holes is known by its free blocks. -/
theorem wf_eq {lo N : Int} {A B : List Ex} (hA : eWF lo N A) (hB : eWF lo N B) (h : ∀ b, Mm b A ↔ Mm b B) : A = B := by
  induction A generalizing lo B with
  | nil =>
    cases B with
    | nil => rfl
    | cons e r => exact absurd ((h e.f).2 ((mm_cons _ _ _).2 (.inl ⟨Int.le_refl _, by have := hB.2.1; omega⟩))) (mm_nil _)
  | cons a r ih =>
    cases B with
    | nil => exact absurd ((h a.f).1 ((mm_cons _ _ _).2 (.inl ⟨Int.le_refl _, by have := hA.2.1; omega⟩))) (mm_nil _)
    | cons e s =>
      obtain ⟨a1, a2, a3, a4⟩ := hA
      obtain ⟨b1, b2, b3, b4⟩ := hB
      have hf : a.f = e.f := by
        have h1 := (h a.f).1 ((mm_cons _ _ _).2 (.inl ⟨Int.le_refl _, by omega⟩))
        have h2 := (h e.f).2 ((mm_cons _ _ _).2 (.inl ⟨Int.le_refl _, by omega⟩))
        have g1 : e.f ≤ a.f := by
          rcases (mm_cons _ _ _).1 h1 with g | g
          · exact g.1
          · have := b4.mm g; omega
        have g2 : a.f ≤ e.f := by
          rcases (mm_cons _ _ _).1 h2 with g | g
          · exact g.1
          · have := a4.mm g; omega
        omega
      have hc : a.c = e.c := by
        rcases Int.lt_trichotomy a.c e.c with hlt | heq | hgt
        · have h1 := (h (a.f + a.c)).2 ((mm_cons _ _ _).2 (.inl ⟨by omega, by omega⟩))
          rcases (mm_cons _ _ _).1 h1 with g | g
          · omega
          · have := a4.mm g; omega
        · exact heq
        · have h1 := (h (e.f + e.c)).1 ((mm_cons _ _ _).2 (.inl ⟨by omega, by omega⟩))
          rcases (mm_cons _ _ _).1 h1 with g | g
          · omega
          · have := b4.mm g; omega
      have hae : a = e := by cases a; cases e; simp_all
      subst hae
      rw [ih a4 b4 (fun b => ?_)]
      have hb := h b
      rw [mm_cons, mm_cons] at hb
      by_cases hin : a.f ≤ b ∧ b < a.f + a.c
      · exact ⟨fun g => absurd (a4.mm g) (by omega), fun g => absurd (b4.mm g) (by omega)⟩
      · constructor
        · intro g
          rcases hb.1 (.inr g) with q | q
          · exact absurd q hin
          · exact q
        · intro g
          rcases hb.2 (.inr g) with q | q
          · exact absurd q hin
          · exact q

/-- All blocks of x are free. -/
def AllF (x : Ex) (L : List Ex) : Prop := ∀ b, x.f ≤ b → b < x.f + x.c → Mm b L
/-- No block of x is free. -/
def NoneF (x : Ex) (L : List Ex) : Prop := ∀ b, x.f ≤ b → b < x.f + x.c → ¬ Mm b L
/-- x lies in hole e. -/
def inb (x e : Ex) : Bool := decide (e.f ≤ x.f) && decide (x.f + x.c ≤ e.f + e.c)
/-- x meets hole e. -/
def meetb (x e : Ex) : Bool := decide (e.f < x.f + x.c) && decide (x.f < e.f + e.c)
/-- Blocks in a row that are all free lie in one hole. -/
theorem allF_iff {lo N : Int} {L : List Ex} (h : eWF lo N L) {x : Ex} (hx : 1 ≤ x.c) : AllF x L ↔ ∃ e ∈ L, inb x e = true := by
  constructor
  · intro ha
    induction L generalizing lo with
    | nil => exact absurd (ha x.f (Int.le_refl _) (by omega)) (mm_nil _)
    | cons e r ih =>
      obtain ⟨h1, h2, h3, h4⟩ := h
      rcases (mm_cons _ _ _).1 (ha x.f (Int.le_refl _) (by omega)) with g | g
      · refine ⟨e, by simp, ?_⟩
        simp only [inb, Bool.and_eq_true, decide_eq_true_eq]
        refine ⟨g.1, ?_⟩
        rcases Int.lt_or_le (e.f + e.c) (x.f + x.c) with hl | hl
        · rcases (mm_cons _ _ _).1 (ha (e.f + e.c) (by omega) hl) with q | q
          · omega
          · have := h4.mm q; omega
        · exact hl
      · have hlo := h4.mm g
        obtain ⟨y, hy, hy'⟩ := ih h4 (fun b b1 b2 => by
          rcases (mm_cons _ _ _).1 (ha b b1 b2) with q | q
          · omega
          · exact q)
        exact ⟨y, by simp [hy], hy'⟩
  · rintro ⟨e, he, hi⟩ b b1 b2
    simp only [inb, Bool.and_eq_true, decide_eq_true_eq] at hi
    exact ⟨e, he, by omega, by omega⟩
theorem noneF_iff {lo N : Int} {L : List Ex} (h : eWF lo N L) {x : Ex} (hx : 1 ≤ x.c) : NoneF x L ↔ ∀ e ∈ L, meetb x e = false := by
  constructor
  · intro hn e he
    obtain ⟨_, hc, _⟩ := h.mem he
    cases hm : meetb x e with
    | false => rfl
    | true =>
      simp only [meetb, Bool.and_eq_true, decide_eq_true_eq] at hm
      rcases Int.le_total x.f e.f with q | q
      · exact absurd ⟨e, he, Int.le_refl _, by omega⟩ (hn e.f q hm.1)
      · exact absurd ⟨e, he, q, hm.2⟩ (hn x.f (Int.le_refl _) (by omega))
  · rintro hn b b1 b2 ⟨e, he, q1, q2⟩
    have := hn e he
    have ht : meetb x e = true := by simp only [meetb, Bool.and_eq_true, decide_eq_true_eq]; omega
    rw [ht] at this
    cases this

/-- What is left of hole e without x. -/
def rest (e x : Ex) : List Ex := (if e.f < x.f then [⟨e.f, x.f - e.f⟩] else []) ++ (if x.f + x.c < e.f + e.c then [⟨x.f + x.c, e.f + e.c - (x.f + x.c)⟩] else [])
theorem mm_rest {e x : Ex} (h : inb x e = true) (hx : 1 ≤ x.c) (b : Int) : Mm b (rest e x) ↔ (e.f ≤ b ∧ b < e.f + e.c) ∧ ¬ (x.f ≤ b ∧ b < x.f + x.c) := by
  simp only [inb, Bool.and_eq_true, decide_eq_true_eq] at h
  unfold rest
  rw [mm_append]
  by_cases h1 : e.f < x.f <;> by_cases h2 : x.f + x.c < e.f + e.c <;> simp only [h1, h2, if_true, if_false, mm_one] <;>
    first
    | (simp only [mm_nil, or_false, false_or]; omega)
    | omega
    | (simp only [mm_nil, or_self, false_iff]; omega)
theorem wf_rest {e x : Ex} (h : inb x e = true) (hx : 1 ≤ x.c) {N : Int} (he : e.f + e.c ≤ N) : eWF e.f N (rest e x) ∧ ∀ y ∈ rest e x, y.f + y.c ≤ e.f + e.c := by
  simp only [inb, Bool.and_eq_true, decide_eq_true_eq] at h
  unfold rest
  by_cases h1 : e.f < x.f <;> by_cases h2 : x.f + x.c < e.f + e.c <;> simp only [h1, h2, if_true, if_false, List.nil_append, List.append_nil, List.cons_append, eWF, List.mem_cons, List.not_mem_nil, or_false, forall_eq_or_imp, forall_eq, and_true, false_imp_iff, implies_true] <;>
    omega
/-- The list with hole i cut. -/
theorem cut_wf {lo N : Int} {A B : List Ex} {e x : Ex} (h : eWF lo N (A ++ e :: B)) (hi : inb x e = true) (hx : 1 ≤ x.c) :
    eWF lo N (A ++ rest e x ++ B) ∧ ∀ b, Mm b (A ++ rest e x ++ B) ↔ Mm b (A ++ e :: B) ∧ ¬ (x.f ≤ b ∧ b < x.f + x.c) := by
  obtain ⟨m, h1, h2, h3, h4⟩ := wf_append.1 h
  obtain ⟨e1, e2, e3, e4⟩ := h4
  obtain ⟨r1, r2⟩ := wf_rest hi hx e3
  have hin := hi
  simp only [inb, Bool.and_eq_true, decide_eq_true_eq] at hin
  constructor
  · rw [List.append_assoc]
    refine wf_append.2 ⟨m, h1, h2, h3, wf_append.2 ⟨e.f + e.c + 1, r1.mono e1, by omega, fun y hy => by have := r2 y hy; omega, e4⟩⟩
  · intro b
    rw [List.append_assoc, mm_append, mm_append, mm_append, mm_cons, mm_rest hi hx]
    have hA : Mm b A → ¬ (x.f ≤ b ∧ b < x.f + x.c) := by
      rintro ⟨y, hy, q1, q2⟩
      have := h3 y hy
      omega
    have hB : Mm b B → ¬ (x.f ≤ b ∧ b < x.f + x.c) := fun q => by have := e4.mm q; omega
    constructor
    · rintro (q | q | q)
      · exact ⟨.inl q, hA q⟩
      · exact ⟨.inr (.inl q.1), q.2⟩
      · exact ⟨.inr (.inr q), hB q⟩
    · rintro ⟨q | q | q, hn⟩
      · exact .inl q
      · exact .inr (.inl ⟨q, hn⟩)
      · exact .inr (.inr q)

/-- The sum of the holes' sizes, and the greatest. -/
def sum : List Ex → Int
  | [] => 0
  | e :: r => e.c + sum r
def big : List Ex → Int
  | [] => 0
  | e :: r => max e.c (big r)
theorem sum_append (A B : List Ex) : sum (A ++ B) = sum A + sum B := by
  induction A with
  | nil => simp [sum]
  | cons e r ih => simp only [List.cons_append, sum, ih]; omega
theorem sum_bounds {lo N : Int} {L : List Ex} (h : eWF lo N L) : 0 ≤ sum L ∧ (L = [] ∨ sum L ≤ N - lo) := by
  induction L generalizing lo with
  | nil => exact ⟨Int.le_refl _, .inl rfl⟩
  | cons e r ih =>
    obtain ⟨h1, h2, h3, h4⟩ := h
    have := ih h4
    unfold sum
    refine ⟨by omega, .inr ?_⟩
    rcases this.2 with rfl | q
    · simp only [sum]; omega
    · omega
theorem length_bounds {lo N : Int} {L : List Ex} (h : eWF lo N L) : L = [] ∨ (L.length : Int) ≤ N - lo := by
  induction L generalizing lo with
  | nil => exact .inl rfl
  | cons e r ih =>
    obtain ⟨h1, h2, h3, h4⟩ := h
    refine .inr ?_
    rw [List.length_cons]
    rcases ih h4 with rfl | q
    · simp only [List.length_nil]; omega
    · omega
theorem big_ge {L : List Ex} {e : Ex} (h : e ∈ L) : e.c ≤ big L := by
  induction L with
  | nil => simp at h
  | cons x r ih =>
    rcases List.mem_cons.1 h with rfl | h
    · exact Int.le_max_left _ _
    · exact Int.le_trans (ih h) (Int.le_max_right _ _)
theorem big_mem {lo N : Int} {L : List Ex} (h : eWF lo N L) : L = [] ∨ ∃ e ∈ L, e.c = big L := by
  induction L generalizing lo with
  | nil => exact .inl rfl
  | cons x r ih =>
    obtain ⟨h1, h2, h3, h4⟩ := h
    refine .inr ?_
    rcases ih h4 with rfl | ⟨e, he, q⟩
    · exact ⟨x, by simp, by simp only [big]; omega⟩
    · unfold big
      rcases Int.le_total x.c (big r) with g | g
      · exact ⟨e, by simp [he], by omega⟩
      · exact ⟨x, by simp, by omega⟩
end Go.Proofs.Ytpjkmficpedmcaa
