/- What is proved: plain facts on a merge: the least of all that is left, of the earliest source that holds it, is the first of all sorted; no condition. -/
import Derived.Test.YtolaeiagfnhllaaTWin
namespace Go.Proofs.Ytolaeiagfnhllaa

theorem insL_first {α : Type} {lt : α → α → Bool} {r : α} : ∀ {l : List α}, (∀ b ∈ l, lt b r = false) → insL lt r l = r :: l
  | [], _ => rfl
  | b :: l, h => by rw [insL, if_neg (by rw [h b (List.mem_cons_self ..)]; decide)]
theorem insL_last {α : Type} {lt : α → α → Bool} {r : α} : ∀ {l : List α}, (∀ b ∈ l, lt b r = true) → insL lt r l = l ++ [r]
  | [], _ => rfl
  | b :: l, h => by
    rw [insL, if_pos (h b (List.mem_cons_self ..)), insL_last fun c hc => h c (List.mem_cons_of_mem _ hc)]
    rfl
theorem insL_behind {α : Type} {lt : α → α → Bool} {a r : α} (h : lt r a = false) : ∀ (l : List α), insL lt a (l ++ [r]) = insL lt a l ++ [r]
  | [] => by
    show insL lt a [r] = [a] ++ [r]
    rw [insL, if_neg (by rw [h]; decide)]
    rfl
  | b :: l => by
    show insL lt a (b :: (l ++ [r])) = _
    rw [insL, insL]
    cases lt b a
    · rw [if_neg (by decide), if_neg (by decide)]; rfl
    · rw [if_pos rfl, if_pos rfl, insL_behind h l]; rfl
theorem srt_first {α : Type} {lt : α → α → Bool} {r : α} {B : List α} (hB : ∀ b ∈ B, lt b r = false) : ∀ {A : List α}, (∀ a ∈ A, lt r a = true) → srt lt (A ++ r :: B) = r :: srt lt (A ++ B)
  | [], _ => by
    show srt lt (r :: B) = r :: srt lt B
    rw [srt, insL_first fun b hb => hB b ((srt_perm lt B).mem_iff.1 hb)]
  | a :: A, hA => by
    show insL lt a (srt lt (A ++ r :: B)) = r :: insL lt a (srt lt (A ++ B))
    rw [srt_first hB fun x hx => hA x (List.mem_cons_of_mem _ hx), insL, if_pos (hA a (List.mem_cons_self ..))]
theorem srt_last {α : Type} {lt : α → α → Bool} {r : α} {B : List α} (hB : ∀ b ∈ B, lt b r = true) : ∀ {A : List α}, (∀ a ∈ A, lt r a = false) → srt lt (A ++ r :: B) = srt lt (A ++ B) ++ [r]
  | [], _ => by
    show srt lt (r :: B) = srt lt B ++ [r]
    rw [srt, insL_last fun b hb => hB b ((srt_perm lt B).mem_iff.1 hb)]
  | a :: A, hA => by
    show insL lt a (srt lt (A ++ r :: B)) = insL lt a (srt lt (A ++ B)) ++ [r]
    rw [srt_last hB fun x hx => hA x (List.mem_cons_of_mem _ hx), insL_behind (hA a (List.mem_cons_self ..))]

/-- What is left of a list of which n rows were handed in, and the source stands so. -/
def rst (l : List RwM) (s : Sr) (n : Nat) : List RwM :=
  match s with
  | .wait => l.drop n
  | .fed r => r :: l.drop n
  | .fin => []
/-- The source fits to the list. -/
structure Sc (l : List RwM) (s : Sr) (n : Nat) : Prop where
  le : n ≤ l.length
  suf : ∃ p, l = p ++ rst l s n
  fin : s = .fin → n = l.length
/-- All sources and lists; R: what is left of each. -/
structure Mg11 (L : List (List RwM)) (S : List Sr) (N : List Nat) (R : List (List RwM)) : Prop where
  ls : S.length = L.length
  ln : N.length = L.length
  lr : R.length = L.length
  at_ : ∀ i, i < L.length → Sc (L.getD i []) (S.getD i .wait) (N.getD i 0) ∧ R.getD i [] = rst (L.getD i []) (S.getD i .wait) (N.getD i 0)
theorem Mg11.start (L : List (List RwM)) : Mg11 L (List.replicate L.length .wait) (List.replicate L.length 0) L := by
  refine ⟨List.length_replicate .., List.length_replicate .., rfl, fun i hi => ?_⟩
  have h1 : (List.replicate L.length Sr.wait).getD i .wait = .wait := by rw [List.getD_eq_getElem?_getD, List.getElem?_replicate, if_pos hi]; rfl
  have h2 : (List.replicate L.length 0).getD i 0 = 0 := by rw [List.getD_eq_getElem?_getD, List.getElem?_replicate, if_pos hi]; rfl
  rw [h1, h2]
  exact ⟨⟨Nat.zero_le _, ⟨[], by simp [rst]⟩, fun e => by cases e⟩, by simp [rst]⟩
/-- The next row of a list that has one; none is left. -/
theorem Mg11.feed {L : List (List RwM)} {S : List Sr} {N : List Nat} {R : List (List RwM)} (h : Mg11 L S N R) {i : Nat} (hi : i < L.length) (hw : (S.getD i .wait).wt = true) {r : RwM} (hr : (L.getD i [])[N.getD i 0]? = some r) : Mg11 L (S.set i (.fed r)) (N.set i (N.getD i 0 + 1)) R := by
  refine ⟨by rw [List.length_set, h.ls], by rw [List.length_set, h.ln], h.lr, fun j hj => ?_⟩
  by_cases e : i = j
  · subst e
    obtain ⟨hs, hR⟩ := h.at_ i hj
    rw [getD_set_eq' (by rw [h.ls]; exact hi), getD_set_eq' (by rw [h.ln]; exact hi)]
    cases hS : S.getD i .wait with
    | wait =>
      rw [hS] at hs hR
      have hlt : N.getD i 0 < (L.getD i []).length := (List.getElem?_eq_some_iff.1 hr).1
      have hd : (L.getD i []).drop (N.getD i 0) = r :: (L.getD i []).drop (N.getD i 0 + 1) := by
        rw [List.drop_eq_getElem_cons hlt]
        rw [(List.getElem?_eq_some_iff.1 hr).2]
      have hq : rst (L.getD i []) .wait (N.getD i 0) = rst (L.getD i []) (.fed r) (N.getD i 0 + 1) := hd
      exact ⟨⟨hlt, by rw [← hq]; exact hs.suf, fun e => by cases e⟩, by rw [← hq]; exact hR⟩
    | fed x => rw [hS] at hw; cases hw
    | fin => rw [hS] at hw; cases hw
  · rw [getD_set_ne' e, getD_set_ne' e]
    exact h.at_ j hj
theorem Mg11.fin {L : List (List RwM)} {S : List Sr} {N : List Nat} {R : List (List RwM)} (h : Mg11 L S N R) {i : Nat} (hi : i < L.length) (hw : (S.getD i .wait).wt = true) (hr : N.getD i 0 = (L.getD i []).length) : Mg11 L (S.set i .fin) N R := by
  refine ⟨by rw [List.length_set, h.ls], h.ln, h.lr, fun j hj => ?_⟩
  by_cases e : i = j
  · subst e
    obtain ⟨hs, hR⟩ := h.at_ i hj
    rw [getD_set_eq' (by rw [h.ls]; exact hi)]
    cases hS : S.getD i .wait with
    | wait =>
      rw [hS] at hs hR
      have hq : rst (L.getD i []) .wait (N.getD i 0) = rst (L.getD i []) .fin (N.getD i 0) := by
        show List.drop _ _ = []
        rw [hr, List.drop_length]
      exact ⟨⟨hs.le, by rw [← hq]; exact hs.suf, fun _ => hr⟩, by rw [← hq]; exact hR⟩
    | fed x => rw [hS] at hw; cases hw
    | fin => rw [hS] at hw; cases hw
  · rw [getD_set_ne' e]
    exact h.at_ j hj
theorem split_at {α : Type} {R : List (List α)} {i : Nat} (h : i < R.length) (t : List α) : R.flatten = (R.take i).flatten ++ (R.getD i [] ++ (R.drop (i + 1)).flatten) ∧ (R.set i t).flatten = (R.take i).flatten ++ (t ++ (R.drop (i + 1)).flatten) := by
  constructor
  · have e : R = R.take i ++ (R.getD i [] :: R.drop (i + 1)) := by
      rw [List.getD_eq_getElem?_getD, List.getElem?_eq_getElem h, Option.getD_some, ← List.drop_eq_getElem_cons h, List.take_append_drop]
    have := congrArg List.flatten e
    simpa using this
  · rw [List.set_eq_take_append_cons_drop, if_pos h]
    simp
/-- One that none beats comes out first. -/
theorem Mg11.win {order : Int} {L : List (List RwM)} {S : List Sr} {N : List Nat} {R : List (List RwM)} (h : Mg11 L S N R) (hp : ∀ i, i < L.length → (L.getD i []).Pairwise fun a b => bef order b a = false) {i : Nat} {r : RwM} (hi : i < S.length) (hr : S.getD i .wait = .fed r) (hw : ∀ j, j < S.length → (S.getD j .wait).wt = false) (hb : ∀ j, j < S.length → bt order S j i = false) :
    ∃ R', Mg11 L (S.set i .wait) N R' ∧ srt (bef order) R.flatten = r :: srt (bef order) R'.flatten := by
  have hi' : i < L.length := by rw [← h.ls]; exact hi
  have hsw := bef_swo order
  obtain ⟨hs, hR⟩ := h.at_ i hi'
  rw [hr] at hs hR
  have hR2 : R.getD i [] = r :: (L.getD i []).drop (N.getD i 0) := hR
  refine ⟨R.set i ((L.getD i []).drop (N.getD i 0)), ⟨by rw [List.length_set, h.ls], h.ln, by rw [List.length_set, h.lr], fun j hj => ?_⟩, ?_⟩
  · by_cases e : i = j
    · subst e
      rw [getD_set_eq' (by rw [h.ls]; exact hi'), getD_set_eq' (by rw [h.lr]; exact hi')]
      refine ⟨⟨hs.le, ⟨(L.getD i []).take (N.getD i 0), ?_⟩, fun e => by cases e⟩, rfl⟩
      show _ = _ ++ List.drop _ _
      rw [List.take_append_drop]
    · rw [getD_set_ne' e, getD_set_ne' e]
      exact h.at_ j hj
  · obtain ⟨e1, e2⟩ := split_at (R := R) (i := i) (by rw [h.lr]; exact hi') ((L.getD i []).drop (N.getD i 0))
    rw [e1, e2, hR2]
    -- of each list what is left is sorted
    have pw : ∀ j, j < L.length → (R.getD j []).Pairwise fun a b => bef order b a = false := fun j hj => by
      obtain ⟨hs, hR⟩ := h.at_ j hj
      obtain ⟨p, hp2⟩ := hs.suf
      have := hp j hj
      rw [hp2] at this
      rw [hR]
      exact (List.pairwise_append.1 this).2.1
    have hd : ∀ j, j < L.length → ∀ x ∈ R.getD j [], bef order x r = false ∧ (j < i → bef order r x = true) := fun j hj x hx => by
      have hj' : j < S.length := by rw [h.ls]; exact hj
      have h1 := hb j hj'
      have h2 := pw j hj
      have h3 := (h.at_ j hj).2
      unfold bt at h1
      rw [hr] at h1
      cases hS : S.getD j .wait with
      | wait => have := hw j hj'; rw [hS] at this; cases this
      | fin => rw [hS] at h3; rw [h3] at hx; cases hx
      | fed y =>
        rw [hS] at h1 h3
        have h4 : R.getD j [] = y :: (L.getD j []).drop (N.getD j 0) := h3
        rw [h4] at hx h2
        simp only [Bool.or_eq_false_iff, Bool.and_eq_false_iff, Bool.not_eq_false', decide_eq_false_iff_not] at h1
        rw [List.pairwise_cons] at h2
        rcases List.mem_cons.1 hx with rfl | hx
        · refine ⟨h1.1, fun hlt => ?_⟩
          rcases h1.2 with h5 | h5
          · exact h5
          · omega
        · have h6 := h2.1 x hx
          refine ⟨hsw.ntr h6 h1.1, fun hlt => ?_⟩
          rcases h1.2 with h5 | h5
          · cases e : bef order r x
            · have := hsw.ntr e h6
              rw [h5] at this
              cases this
            · rfl
          · omega
    refine srt_first (fun b hb2 => ?_) (fun a ha => ?_)
    · rcases List.mem_append.1 hb2 with hb3 | hb3
      · exact (hd i hi' b (by rw [hR2]; exact List.mem_cons_of_mem _ hb3)).1
      · obtain ⟨l, hl, hb4⟩ := List.mem_flatten.1 hb3
        obtain ⟨j, hj, rfl⟩ := List.mem_iff_getElem.1 (List.mem_of_mem_drop hl)
        refine (hd j (by rw [← h.lr]; exact hj) b ?_).1
        rw [List.getD_eq_getElem?_getD, List.getElem?_eq_getElem hj]
        exact hb4
    · obtain ⟨l, hl, ha4⟩ := List.mem_flatten.1 ha
      obtain ⟨j, hj, rfl⟩ := List.mem_iff_getElem.1 hl
      rw [List.length_take] at hj
      have hj2 : j < R.length := by omega
      refine (hd j (by rw [← h.lr]; exact hj2) a ?_).2 (by omega)
      rw [List.getD_eq_getElem?_getD, List.getElem?_eq_getElem hj2]
      rw [List.getElem_take] at ha4
      exact ha4
/-- As many rows are left as the lists have and were not taken. -/
theorem Mg11.dry {L : List (List RwM)} {S : List Sr} {N : List Nat} {R : List (List RwM)} (h : Mg11 L S N R) (hf : ∀ j, j < S.length → S.getD j .wait = .fin) : R.flatten = [] := by
  rw [List.flatten_eq_nil_iff]
  intro l hl
  obtain ⟨j, hj, rfl⟩ := List.mem_iff_getElem.1 hl
  have hj2 : j < L.length := by rw [← h.lr]; exact hj
  have h3 := (h.at_ j hj2).2
  rw [hf j (by rw [h.ls]; exact hj2), List.getD_eq_getElem?_getD, List.getElem?_eq_getElem hj] at h3
  exact h3
end Go.Proofs.Ytolaeiagfnhllaa
