/- What is proved: plain facts on sorting by insertion: rows alike stay as they stood, merging two sorted lists sorts both, and a rising list of places that holds each place once is the sorted one; no condition. -/
import Derived.Test.YtbjmdpfoeeadeaaQCmp
namespace Go.Proofs.Ytbjmdpfoeeadeaa.Rw

/-- An order in which some may be alike. -/
structure SWO {α : Type} (lt : α → α → Bool) : Prop where
  asym : ∀ {a b}, lt a b = true → lt b a = false
  ntr : ∀ {a b c}, lt a b = false → lt b c = false → lt a c = false
theorem SWO.trans {α : Type} {lt : α → α → Bool} (h : SWO lt) {a b c : α} (h1 : lt a b = true) (h2 : lt b c = true) : lt a c = true := by
  cases h3 : lt a c
  · have := h.ntr h3 (h.asym h2)
    rw [h1] at this
    cases this
  · rfl
theorem SWO.irr {α : Type} {lt : α → α → Bool} (h : SWO lt) (a : α) : lt a a = false := by
  cases h1 : lt a a
  · rfl
  · rw [← h1]; exact h.asym h1
section
variable {α : Type}
/-- x ahead of the first that doesn't come before it. -/
def insL (lt : α → α → Bool) (x : α) : List α → List α
  | [] => [x]
  | y :: l => if lt y x = true then y :: insL lt x l else x :: y :: l
/-- The list sorted, those alike as they stood. -/
def srt (lt : α → α → Bool) : List α → List α
  | [] => []
  | x :: l => insL lt x (srt lt l)
theorem insL_perm (lt : α → α → Bool) (x : α) (l : List α) : (insL lt x l).Perm (x :: l) := by
  induction l with
  | nil => exact List.Perm.refl _
  | cons y l ih =>
    simp only [insL]
    by_cases h : lt y x = true
    · rw [if_pos h]
      exact (ih.cons y).trans (List.Perm.swap x y l)
    · rw [if_neg h]
theorem srt_perm (lt : α → α → Bool) (l : List α) : (srt lt l).Perm l := by
  induction l with
  | nil => exact List.Perm.refl _
  | cons x l ih => exact (insL_perm lt x _).trans (ih.cons x)
theorem srt_len (lt : α → α → Bool) (l : List α) : (srt lt l).length = l.length := (srt_perm lt l).length_eq
theorem insL_pw {lt : α → α → Bool} (h : SWO lt) (x : α) {l : List α} (hl : l.Pairwise fun a b => lt b a = false) : (insL lt x l).Pairwise fun a b => lt b a = false := by
  induction l with
  | nil => simp [insL]
  | cons y l ih =>
    obtain ⟨h1, h2⟩ := List.pairwise_cons.1 hl
    simp only [insL]
    by_cases hy : lt y x = true
    · rw [if_pos hy, List.pairwise_cons]
      refine ⟨fun z hz => ?_, ih h2⟩
      rcases List.mem_cons.1 ((insL_perm lt x l).mem_iff.1 hz) with rfl | hz
      · exact h.asym hy
      · exact h1 z hz
    · rw [if_neg hy, List.pairwise_cons]
      have hy' : lt y x = false := by simpa using hy
      refine ⟨fun z hz => ?_, hl⟩
      rcases List.mem_cons.1 hz with rfl | hz
      · exact hy'
      · exact h.ntr (h1 z hz) hy'
theorem srt_pw {lt : α → α → Bool} (h : SWO lt) (l : List α) : (srt lt l).Pairwise fun a b => lt b a = false := by
  induction l with
  | nil => exact List.Pairwise.nil
  | cons x l ih => exact insL_pw h x ih
/-- Two lists laid into one, of two alike the first list's ahead. -/
def mrg (lt : α → α → Bool) : List α → List α → List α
  | [], b => b
  | x :: a, [] => x :: a
  | x :: a, y :: b => if lt y x = true then y :: mrg lt (x :: a) b else x :: mrg lt a (y :: b)
termination_by a b => a.length + b.length
theorem mrg_nil (lt : α → α → Bool) (a : List α) : mrg lt a [] = a := by cases a <;> simp [mrg]
theorem nil_mrg (lt : α → α → Bool) (b : List α) : mrg lt [] b = b := by simp [mrg]
theorem mrg_snd {lt : α → α → Bool} {x y : α} (a b : List α) (h : lt y x = true) : mrg lt (x :: a) (y :: b) = y :: mrg lt (x :: a) b := by rw [mrg, if_pos h]
theorem mrg_fst {lt : α → α → Bool} {x y : α} (a b : List α) (h : lt y x = false) : mrg lt (x :: a) (y :: b) = x :: mrg lt a (y :: b) := by rw [mrg, if_neg (by rw [h]; decide)]
theorem mrg_ins {lt : α → α → Bool} (h : SWO lt) (x : α) : ∀ (n : Nat) (a b : List α), a.length + b.length ≤ n → mrg lt (insL lt x a) b = insL lt x (mrg lt a b) := by
  intro n
  induction n with
  | zero =>
    intro a b hn
    have ha : a = [] := List.eq_nil_of_length_eq_zero (by omega)
    have hb : b = [] := List.eq_nil_of_length_eq_zero (by omega)
    subst ha hb
    rw [mrg_nil, mrg_nil]
  | succ n ih =>
    intro a b hn
    cases b with
    | nil => rw [mrg_nil, mrg_nil]
    | cons z b =>
      simp only [List.length_cons] at hn
      cases a with
      | nil =>
        simp only [insL]
        rw [nil_mrg]
        cases hz : lt z x
        · rw [mrg_fst _ _ hz, nil_mrg]
          simp [insL, hz]
        · rw [mrg_snd _ _ hz]
          have := ih [] b (by simp; omega)
          simp only [insL] at this
          rw [this, nil_mrg]
          simp [insL, hz]
      | cons y a =>
        simp only [List.length_cons] at hn
        cases hy : lt y x
        · have e : insL lt x (y :: a) = x :: y :: a := by simp [insL, hy]
          rw [e]
          cases hz : lt z x
          · rw [mrg_fst _ _ hz]
            cases hzy : lt z y
            · rw [mrg_fst _ _ hzy]
              simp [insL, hy]
            · rw [mrg_snd _ _ hzy]
              simp [insL, hz]
          · have hzy : lt z y = true := by
              cases hzy : lt z y
              · have := h.ntr hzy hy
                rw [hz] at this
                cases this
              · rfl
            rw [mrg_snd _ _ hz, mrg_snd _ _ hzy, ← e, ih (y :: a) b (by simp; omega)]
            simp [insL, hz]
        · have e : insL lt x (y :: a) = y :: insL lt x a := by simp [insL, hy]
          rw [e]
          cases hzy : lt z y
          · rw [mrg_fst _ _ hzy, mrg_fst _ _ hzy, ih a (z :: b) (by simp; omega)]
            simp [insL, hy]
          · have hz : lt z x = true := h.trans hzy hy
            rw [mrg_snd _ _ hzy, mrg_snd _ _ hzy, ← e, ih (y :: a) b (by simp; omega)]
            simp [insL, hz]
theorem mrg_srt {lt : α → α → Bool} (h : SWO lt) (a b : List α) : mrg lt (srt lt a) (srt lt b) = srt lt (a ++ b) := by
  induction a with
  | nil => exact nil_mrg _ _
  | cons x a ih =>
    show mrg lt (insL lt x (srt lt a)) _ = insL lt x (srt lt (a ++ b))
    rw [mrg_ins h x _ _ _ (Nat.le_refl _), ih]
/-- What rises is as sorted. -/
theorem srt_of_pw {lt : α → α → Bool} {l : List α} (hl : l.Pairwise fun a b => lt b a = false) : srt lt l = l := by
  induction l with
  | nil => rfl
  | cons x l ih =>
    obtain ⟨h1, h2⟩ := List.pairwise_cons.1 hl
    show insL lt x (srt lt l) = _
    rw [ih h2]
    cases l with
    | nil => rfl
    | cons y l =>
      simp only [insL]
      rw [if_neg (by rw [h1 y (by simp)]; decide)]
theorem srt_uniq {lt : α → α → Bool} (h : SWO lt) {l o : List α} (hp : o.Perm l) (ho : o.Pairwise fun a b => lt a b = true) : o = srt lt l := by
  refine List.Perm.eq_of_pairwise (le := fun a b => lt b a = false) ?_ (ho.imp fun h' => h.asym h') (srt_pw h l) (hp.trans (srt_perm lt l).symm)
  intro a b ha hb h1 h2
  -- of two different places in the rising list one comes before the other
  have hb' : b ∈ o := hp.mem_iff.2 ((srt_perm lt l).mem_iff.1 hb)
  obtain ⟨i, hi, rfl⟩ := List.getElem_of_mem ha
  obtain ⟨j, hj, rfl⟩ := List.getElem_of_mem hb'
  rw [List.pairwise_iff_getElem] at ho
  rcases Nat.lt_trichotomy i j with hij | rfl | hij
  · have := ho i j hi hj hij
    rw [this] at h2; cases h2
  · rfl
  · have := ho j i hj hi hij
    rw [this] at h1; cases h1
end
/-- Places of a list, by their rows and, of rows alike, by themselves. -/
def plt (lt : RwM → RwM → Bool) (l : List RwM) (i j : Nat) : Bool := lt (l.getD i r0) (l.getD j r0) || (!lt (l.getD j r0) (l.getD i r0) && decide (i < j))
theorem plt_swo {lt : RwM → RwM → Bool} (h : SWO lt) (l : List RwM) : SWO (plt lt l) := by
  constructor
  · intro a b hab
    simp only [plt, Bool.or_eq_true, Bool.and_eq_true, Bool.not_eq_true', decide_eq_true_eq, Bool.or_eq_false_iff, Bool.and_eq_false_iff, Bool.not_eq_false', decide_eq_false_iff_not] at *
    rcases hab with h1 | ⟨h1, h2⟩
    · exact ⟨h.asym h1, .inl h1⟩
    · exact ⟨h1, .inr (by omega)⟩
  · intro a b c hab hbc
    simp only [plt, Bool.or_eq_false_iff, Bool.and_eq_false_iff, Bool.not_eq_false', decide_eq_false_iff_not] at *
    obtain ⟨a1, a2⟩ := hab
    obtain ⟨b1, b2⟩ := hbc
    refine ⟨h.ntr a1 b1, ?_⟩
    cases hca : lt (l.getD c r0) (l.getD a r0)
    · refine .inr ?_
      rcases a2 with a2 | a2
      · have := h.ntr b1 hca
        rw [a2] at this; cases this
      · rcases b2 with b2 | b2
        · have := h.ntr hca a1
          rw [b2] at this; cases this
        · omega
    · exact .inl rfl
theorem insL_plt {lt : RwM → RwM → Bool} {l : List RwM} {i : Nat} : ∀ {m : List Nat}, (∀ k ∈ m, i < k) → (insL (plt lt l) i m).map (l.getD · r0) = insL lt (l.getD i r0) (m.map (l.getD · r0)) := by
  intro m
  induction m with
  | nil => intro _; rfl
  | cons y m ih =>
    intro hm
    have hy := hm y (by simp)
    have e : plt lt l y i = lt (l.getD y r0) (l.getD i r0) := by
      simp only [plt]
      rw [decide_eq_false (by omega), Bool.and_false, Bool.or_false]
    simp only [insL, List.map_cons, e]
    by_cases h : lt (l.getD y r0) (l.getD i r0) = true
    · rw [if_pos h, if_pos h, List.map_cons, ih fun k hk => hm k (by simp [hk])]
    · rw [if_neg h, if_neg h]; rfl
theorem srt_plt {lt : RwM → RwM → Bool} {l : List RwM} : ∀ {m : List Nat}, m.Pairwise (· < ·) → (srt (plt lt l) m).map (l.getD · r0) = srt lt (m.map (l.getD · r0)) := by
  intro m
  induction m with
  | nil => intro _; rfl
  | cons y m ih =>
    intro hm
    obtain ⟨h1, h2⟩ := List.pairwise_cons.1 hm
    show (insL (plt lt l) y (srt (plt lt l) m)).map _ = insL lt _ (srt lt (m.map _))
    rw [insL_plt fun k hk => h1 k ((srt_perm _ m).mem_iff.1 hk), ih h2]
/-- Places taken out by rising order give the sorted list. -/
theorem srt_places {lt : RwM → RwM → Bool} (h : SWO lt) {l : List RwM} {o : List Nat} (hp : o.Perm (List.range l.length)) (ho : o.Pairwise fun a b => plt lt l a b = true) : o.map (l.getD · r0) = srt lt l := by
  rw [srt_uniq (plt_swo h l) hp ho, srt_plt List.pairwise_lt_range]
  congr 1
  refine List.ext_getElem (by simp) fun i h1 h2 => ?_
  simp
  rw [List.getElem?_eq_getElem h2]
  rfl
theorem bef_swo (order : Int) : SWO (bef order) := by
  constructor
  · intro a b h
    cases h2 : bef order b a
    · rfl
    · rw [bef_iff] at h h2
      omega
  · intro a b c h1 h2
    cases h3 : bef order a c
    · rfl
    · have h1' : ¬ bef order a b = true := by rw [h1]; decide
      have h2' : ¬ bef order b c = true := by rw [h2]; decide
      rw [bef_iff] at h1' h2' h3
      omega
end Go.Proofs.Ytbjmdpfoeeadeaa.Rw
