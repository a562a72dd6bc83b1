/- What is proved: plain facts on sorting and on heaps: those alike stay as they stood, merging two sorted lists sorts both, what putting one into a heap leaves; no condition. -/
import Derived.Test.YtbhihmkgimdjpaaDoorDBase
namespace Go.Proofs.YtbhihmkgimdjpaaDoor

/-- An order in which some may be alike. -/
structure SWO {α : Type} (lt : α → α → Bool) : Prop where
  asym : ∀ {a b}, lt a b = true → lt b a = false
  ntr : ∀ {a b c}, lt a b = false → lt b c = false → lt a c = false
theorem SWO.trans {α : Type} {lt : α → α → Bool} (h : SWO lt) {a b c : α} (h1 : lt a b = true) (h2 : lt b c = true) : lt a c = true := by
  cases h3 : lt a c
  · have := h.ntr h3 (h.asym h2)
    rw [h1] at this
    cases this
  · rfl
theorem SWO.irr {α : Type} {lt : α → α → Bool} (h : SWO lt) (a : α) : lt a a = false := by
  cases h1 : lt a a
  · rfl
  · rw [← h1]; exact h.asym h1
section
variable {α : Type}
/-- x ahead of the first that doesn't come before it. -/
def insL (lt : α → α → Bool) (x : α) : List α → List α
  | [] => [x]
  | y :: l => if lt y x = true then y :: insL lt x l else x :: y :: l
/-- The list sorted, those alike as they stood. -/
def srt (lt : α → α → Bool) : List α → List α
  | [] => []
  | x :: l => insL lt x (srt lt l)
theorem insL_perm (lt : α → α → Bool) (x : α) (l : List α) : (insL lt x l).Perm (x :: l) := by
  induction l with
  | nil => exact List.Perm.refl _
  | cons y l ih =>
    simp only [insL]
    by_cases h : lt y x = true
    · rw [if_pos h]
      exact (ih.cons y).trans (List.Perm.swap x y l)
    · rw [if_neg h]
theorem srt_perm (lt : α → α → Bool) (l : List α) : (srt lt l).Perm l := by
  induction l with
  | nil => exact List.Perm.refl _
  | cons x l ih => exact (insL_perm lt x _).trans (ih.cons x)
theorem srt_len (lt : α → α → Bool) (l : List α) : (srt lt l).length = l.length := (srt_perm lt l).length_eq
theorem insL_pw {lt : α → α → Bool} (h : SWO lt) (x : α) {l : List α} (hl : l.Pairwise fun a b => lt b a = false) : (insL lt x l).Pairwise fun a b => lt b a = false := by
  induction l with
  | nil => simp [insL]
  | cons y l ih =>
    obtain ⟨h1, h2⟩ := List.pairwise_cons.1 hl
    simp only [insL]
    by_cases hy : lt y x = true
    · rw [if_pos hy, List.pairwise_cons]
      refine ⟨fun z hz => ?_, ih h2⟩
      rcases List.mem_cons.1 ((insL_perm lt x l).mem_iff.1 hz) with rfl | hz
      · exact h.asym hy
      · exact h1 z hz
    · rw [if_neg hy, List.pairwise_cons]
      have hy' : lt y x = false := by simpa using hy
      refine ⟨fun z hz => ?_, hl⟩
      rcases List.mem_cons.1 hz with rfl | hz
      · exact hy'
      · exact h.ntr (h1 z hz) hy'
theorem srt_pw {lt : α → α → Bool} (h : SWO lt) (l : List α) : (srt lt l).Pairwise fun a b => lt b a = false := by
  induction l with
  | nil => exact List.Pairwise.nil
  | cons x l ih => exact insL_pw h x ih
/-- Two lists laid into one, of two alike the first list's ahead. -/
def mrg (lt : α → α → Bool) : List α → List α → List α
  | [], b => b
  | x :: a, [] => x :: a
  | x :: a, y :: b => if lt y x = true then y :: mrg lt (x :: a) b else x :: mrg lt a (y :: b)
termination_by a b => a.length + b.length
theorem mrg_nil (lt : α → α → Bool) (a : List α) : mrg lt a [] = a := by cases a <;> simp [mrg]
theorem nil_mrg (lt : α → α → Bool) (b : List α) : mrg lt [] b = b := by simp [mrg]
theorem mrg_snd {lt : α → α → Bool} {x y : α} (a b : List α) (h : lt y x = true) : mrg lt (x :: a) (y :: b) = y :: mrg lt (x :: a) b := by rw [mrg, if_pos h]
theorem mrg_fst {lt : α → α → Bool} {x y : α} (a b : List α) (h : lt y x = false) : mrg lt (x :: a) (y :: b) = x :: mrg lt a (y :: b) := by rw [mrg, if_neg (by rw [h]; decide)]
theorem mrg_ins {lt : α → α → Bool} (h : SWO lt) (x : α) : ∀ (n : Nat) (a b : List α), a.length + b.length ≤ n → mrg lt (insL lt x a) b = insL lt x (mrg lt a b) := by
  intro n
  induction n with
  | zero =>
    intro a b hn
    have ha : a = [] := List.eq_nil_of_length_eq_zero (by omega)
    have hb : b = [] := List.eq_nil_of_length_eq_zero (by omega)
    subst ha hb
    rw [mrg_nil, mrg_nil]
  | succ n ih =>
    intro a b hn
    cases b with
    | nil => rw [mrg_nil, mrg_nil]
    | cons z b =>
      simp only [List.length_cons] at hn
      cases a with
      | nil =>
        simp only [insL]
        rw [nil_mrg]
        cases hz : lt z x
        · rw [mrg_fst _ _ hz, nil_mrg]
          simp [insL, hz]
        · rw [mrg_snd _ _ hz]
          have := ih [] b (by simp; omega)
          simp only [insL] at this
          rw [this, nil_mrg]
          simp [insL, hz]
      | cons y a =>
        simp only [List.length_cons] at hn
        cases hy : lt y x
        · have e : insL lt x (y :: a) = x :: y :: a := by simp [insL, hy]
          rw [e]
          cases hz : lt z x
          · rw [mrg_fst _ _ hz]
            cases hzy : lt z y
            · rw [mrg_fst _ _ hzy]
              simp [insL, hy]
            · rw [mrg_snd _ _ hzy]
              simp [insL, hz]
          · have hzy : lt z y = true := by
              cases hzy : lt z y
              · have := h.ntr hzy hy
                rw [hz] at this
                cases this
              · rfl
            rw [mrg_snd _ _ hz, mrg_snd _ _ hzy, ← e, ih (y :: a) b (by simp; omega)]
            simp [insL, hz]
        · have e : insL lt x (y :: a) = y :: insL lt x a := by simp [insL, hy]
          rw [e]
          cases hzy : lt z y
          · rw [mrg_fst _ _ hzy, mrg_fst _ _ hzy, ih a (z :: b) (by simp; omega)]
            simp [insL, hy]
          · have hz : lt z x = true := h.trans hzy hy
            rw [mrg_snd _ _ hzy, mrg_snd _ _ hzy, ← e, ih (y :: a) b (by simp; omega)]
            simp [insL, hz]
theorem mrg_srt {lt : α → α → Bool} (h : SWO lt) (a b : List α) : mrg lt (srt lt a) (srt lt b) = srt lt (a ++ b) := by
  induction a with
  | nil => exact nil_mrg _ _
  | cons x a ih =>
    show mrg lt (insL lt x (srt lt a)) _ = insL lt x (srt lt (a ++ b))
    rw [mrg_ins h x _ _ _ (Nat.le_refl _), ih]
/-- What rises is as sorted. -/
theorem srt_of_pw {lt : α → α → Bool} {l : List α} (hl : l.Pairwise fun a b => lt b a = false) : srt lt l = l := by
  induction l with
  | nil => rfl
  | cons x l ih =>
    obtain ⟨h1, h2⟩ := List.pairwise_cons.1 hl
    show insL lt x (srt lt l) = _
    rw [ih h2]
    cases l with
    | nil => rfl
    | cons y l =>
      simp only [insL]
      rw [if_neg (by rw [h1 y (by simp)]; decide)]
theorem srt_uniq {lt : α → α → Bool} (h : SWO lt) {l o : List α} (hp : o.Perm l) (ho : o.Pairwise fun a b => lt a b = true) : o = srt lt l := by
  refine List.Perm.eq_of_pairwise (le := fun a b => lt b a = false) ?_ (ho.imp fun h' => h.asym h') (srt_pw h l) (hp.trans (srt_perm lt l).symm)
  intro a b ha hb h1 h2
  -- of two different places in the rising list one comes before the other
  have hb' : b ∈ o := hp.mem_iff.2 ((srt_perm lt l).mem_iff.1 hb)
  obtain ⟨i, hi, rfl⟩ := List.getElem_of_mem ha
  obtain ⟨j, hj, rfl⟩ := List.getElem_of_mem hb'
  rw [List.pairwise_iff_getElem] at ho
  rcases Nat.lt_trichotomy i j with hij | rfl | hij
  · have := ho i j hi hj hij
    rw [this] at h2; cases h2
  · rfl
  · have := ho j i hj hi hij
    rw [this] at h1; cases h1
end
section
variable {α : Type} [Inhabited α]
/-- The list with the items of two places changed. -/
def swp (L : List α) (i j : Nat) : List α := (L.set i (L.getD j default)).set j (L.getD i default)
theorem getD_at {L : List α} {i : Nat} (h : i < L.length) : L.getD i default = L[i] := by simp [h]
theorem swp_len (L : List α) (i j : Nat) : (swp L i j).length = L.length := by simp [swp]
theorem swp_perm {L : List α} {i j : Nat} (hi : i < L.length) (hj : j < L.length) : (swp L i j).Perm L := by
  have h := Array.swap_perm (xs := L.toArray) (i := i) (j := j) (by simpa using hi) (by simpa using hj)
  rw [List.swap_toArray] at h
  have h2 := Array.perm_iff_toList_perm.1 h
  simp only [] at h2
  unfold swp
  rw [getD_at hi, getD_at hj]
  exact h2
theorem getD_set {L : List α} {i : Nat} (x : α) (hi : i < L.length) (k : Nat) : (L.set i x).getD k default = if k = i then x else L.getD k default := by
  rw [List.getD_eq_getElem?_getD, List.getD_eq_getElem?_getD, List.getElem?_set]
  by_cases h : k = i
  · subst h; simp [hi]
  · rw [if_neg (fun e => h e.symm), if_neg h]
theorem swp_get {L : List α} {i j : Nat} (hi : i < L.length) (hj : j < L.length) (k : Nat) : (swp L i j).getD k default = if k = j then L.getD i default else if k = i then L.getD j default else L.getD k default := by
  unfold swp
  rw [getD_set _ (by simpa using hj), getD_set _ hi]
/-- Above each item stands none that comes behind it. -/
def Hp (lt : α → α → Bool) (L : List α) : Prop := ∀ k, 0 < k → k < L.length → lt (L.getD k default) (L.getD ((k - 1) / 2) default) = false
/-- The same but for the item at a place, which may have to rise. -/
structure Up (lt : α → α → Bool) (L : List α) (a : Nat) : Prop where
  inr : a < L.length
  rest : ∀ k, 0 < k → k < L.length → k ≠ a → lt (L.getD k default) (L.getD ((k - 1) / 2) default) = false
  below : ∀ k, 0 < k → k < L.length → (k - 1) / 2 = a → 0 < a → lt (L.getD k default) (L.getD ((a - 1) / 2) default) = false
/-- The same but for the item at a place, which may have to sink. -/
structure Dn (lt : α → α → Bool) (L : List α) (a : Nat) : Prop where
  rest : ∀ k, 0 < k → k < L.length → (k - 1) / 2 ≠ a → lt (L.getD k default) (L.getD ((k - 1) / 2) default) = false
  below : ∀ k, 0 < k → k < L.length → (k - 1) / 2 = a → 0 < a → lt (L.getD k default) (L.getD ((a - 1) / 2) default) = false
theorem getD_app {L : List α} {k : Nat} (x : α) (h : k < L.length) : (L ++ [x]).getD k default = L.getD k default := by
  rw [List.getD_eq_getElem?_getD, List.getD_eq_getElem?_getD, List.getElem?_append_left h]
theorem Up.start {lt : α → α → Bool} {L : List α} (h : Hp lt L) (x : α) : Up lt (L ++ [x]) L.length := by
  refine ⟨by simp, fun k h0 h1 h2 => ?_, fun k h0 h1 h2 => ?_⟩
  · simp only [List.length_append, List.length_cons, List.length_nil] at h1
    rw [getD_app _ (by omega), getD_app _ (by omega)]
    exact h k h0 (by omega)
  · simp only [List.length_append, List.length_cons, List.length_nil] at h1
    omega
theorem Up.step {lt : α → α → Bool} (o : SWO lt) {L : List α} {a : Nat} (h : Up lt L a) (h0 : 0 < a) (hl : lt (L.getD a default) (L.getD ((a - 1) / 2) default) = true) : Up lt (swp L a ((a - 1) / 2)) ((a - 1) / 2) := by
  have ha := h.inr
  have hp : (a - 1) / 2 < L.length := by omega
  generalize hq : (a - 1) / 2 = p at *
  have hpa : p ≠ a := by omega
  refine ⟨by rw [swp_len]; exact hp, fun k k0 k1 k2 => ?_, fun k k0 k1 k2 k3 => ?_⟩
  · rw [swp_len] at k1
    rw [swp_get ha hp, swp_get ha hp, if_neg k2]
    by_cases e1 : k = a
    · subst e1
      rw [if_pos rfl, hq, if_pos rfl]
      exact o.asym hl
    · rw [if_neg e1]
      by_cases e2 : (k - 1) / 2 = p
      · rw [if_pos e2]
        -- a brother of a
        have := h.rest k k0 k1 e1
        rw [e2] at this
        exact o.ntr this (o.asym hl)
      · rw [if_neg e2]
        by_cases e3 : (k - 1) / 2 = a
        · rw [if_pos e3]
          have := h.below k k0 k1 e3 h0
          rwa [hq] at this
        · rw [if_neg e3]
          exact h.rest k k0 k1 e1
  · rw [swp_len] at k1
    have hpp : (p - 1) / 2 ≠ p := by omega
    have hpp2 : (p - 1) / 2 ≠ a := by omega
    rw [swp_get ha hp, swp_get ha hp, if_neg hpp, if_neg hpp2]
    have hkp : k ≠ p := by omega
    rw [if_neg hkp]
    have hpr := h.rest p k3 hp hpa
    by_cases e1 : k = a
    · rw [if_pos e1]; exact hpr
    · rw [if_neg e1]
      have := h.rest k k0 k1 e1
      rw [k2] at this
      exact o.ntr this hpr
theorem Up.done {lt : α → α → Bool} {L : List α} {a : Nat} (h : Up lt L a) (hl : 0 < a → lt (L.getD a default) (L.getD ((a - 1) / 2) default) = false) : Hp lt L := fun k k0 k1 => by
  by_cases e : k = a
  · subst e; exact hl k0
  · exact h.rest k k0 k1 e
theorem Dn.step {lt : α → α → Bool} (o : SWO lt) {L : List α} {a c : Nat} (h : Dn lt L a) (h0 : 0 < c) (hc : c < L.length) (hpar : (c - 1) / 2 = a) (hl : lt (L.getD c default) (L.getD a default) = true)
    (hm : ∀ k, 0 < k → k < L.length → (k - 1) / 2 = a → lt (L.getD k default) (L.getD c default) = false) : Dn lt (swp L a c) c := by
  have ha : a < L.length := by omega
  have hca : c ≠ a := by omega
  refine ⟨fun k k0 k1 k2 => ?_, fun k k0 k1 k2 k3 => ?_⟩
  · rw [swp_len] at k1
    rw [swp_get ha hc, swp_get ha hc, if_neg k2]
    by_cases e1 : k = c
    · subst e1
      rw [if_pos rfl, if_pos hpar]
      exact o.asym hl
    · rw [if_neg e1]
      by_cases e2 : (k - 1) / 2 = a
      · rw [if_pos e2, if_neg (by omega)]
        exact hm k k0 k1 e2
      · rw [if_neg e2]
        by_cases e3 : k = a
        · subst e3
          rw [if_pos rfl]
          exact h.below c h0 hc hpar k0
        · rw [if_neg e3]
          exact h.rest k k0 k1 e2
  · rw [swp_len] at k1
    rw [swp_get ha hc, swp_get ha hc, hpar, if_neg (by omega), if_neg (by omega), if_neg (fun e => hca e.symm), if_pos rfl]
    have := h.rest k k0 k1 (by omega)
    rwa [k2] at this
theorem Dn.done {lt : α → α → Bool} {L : List α} {a : Nat} (h : Dn lt L a) (hm : ∀ k, 0 < k → k < L.length → (k - 1) / 2 = a → lt (L.getD k default) (L.getD a default) = false) : Hp lt L := fun k k0 k1 => by
  by_cases e : (k - 1) / 2 = a
  · rw [e]; exact hm k k0 k1 e
  · exact h.rest k k0 k1 e
/-- The first comes behind none. -/
theorem Hp.first {lt : α → α → Bool} (o : SWO lt) {L : List α} (h : Hp lt L) : ∀ k, k < L.length → lt (L.getD k default) (L.getD 0 default) = false := by
  intro k
  induction k using Nat.strongRecOn with
  | ind k ih =>
    intro hk
    by_cases h0 : k = 0
    · subst h0; exact o.irr _
    · exact o.ntr (h k (by omega) hk) (ih ((k - 1) / 2) (by omega) (by omega))
theorem Hp.mem {lt : α → α → Bool} (o : SWO lt) {L : List α} (h : Hp lt L) {x : α} (hx : x ∈ L) : lt x (L.getD 0 default) = false := by
  obtain ⟨i, hi, rfl⟩ := List.getElem_of_mem hx
  have := h.first o i hi
  rwa [getD_at hi] at this
theorem Hp.nil (lt : α → α → Bool) : Hp lt [] := fun k _ h => by simp at h
end
end Go.Proofs.YtbhihmkgimdjpaaDoor
