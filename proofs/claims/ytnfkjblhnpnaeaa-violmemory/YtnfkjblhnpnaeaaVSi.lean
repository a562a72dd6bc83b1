/- What is proved: the library's insertion sort of a part of a row whose numbers rise sorts it, those alike as they stood; no condition. -/
import Derived.Test.YtnfkjblhnpnaeaaVSy
import Derived.Sort.LotA
import Derived.Sort.WalkA
import Derived.Shelf.SlSortCmp.InsertionK
namespace Go.Proofs.Ytnfkjblhnpnaeaa

/-- The order without the numbers. -/
def ltW (x y : Nb) : Bool := ltV x.v y.v
theorem swpN_get (d : Array Nb) {i j : Nat} (hi : i < d.size) (hj : j < d.size) (k : Nat) : (Sort.swp d i j)[k]! = if k = j then d[i]! else if k = i then d[j]! else d[k]! := Sort.swp_get d hi hj k
theorem swpN_size (d : Array Nb) (i j : Nat) : (Sort.swp d i j).size = d.size := by simp [Sort.swp]
theorem ins_size (lt : Nb → Nb → Bool) (a : Nat) : ∀ (j : Nat) (d : Array Nb), (Sort.insInner lt a j d).size = d.size := by
  intro j
  induction j with
  | zero => intro d; rfl
  | succ j ih =>
    intro d
    rw [Sort.insInner]
    split
    · rw [ih, swpN_size]
    · rfl
theorem ins_above (lt : Nb → Nb → Bool) (a : Nat) : ∀ (j : Nat) (d : Array Nb), j < d.size → ∀ t, j < t → (Sort.insInner lt a j d)[t]! = d[t]! := by
  intro j
  induction j with
  | zero => intro d _ t _; rfl
  | succ j ih =>
    intro d hj t ht
    rw [Sort.insInner]
    split
    · rw [ih _ (by rw [swpN_size]; omega) t (by omega), swpN_get d hj (by omega), if_neg (by omega), if_neg (by omega)]
    · rfl
theorem ins_all (lt : Nb → Nb → Bool) (a : Nat) (Q : Nb → Prop) : ∀ (j : Nat) (d : Array Nb), j < d.size → (∀ t, a ≤ t → t ≤ j → Q d[t]!) → ∀ t, a ≤ t → t ≤ j → Q (Sort.insInner lt a j d)[t]! := by
  intro j
  induction j with
  | zero => intro d _ h t h1 h2; exact h t h1 h2
  | succ j ih =>
    intro d hj h t h1 h2
    rw [Sort.insInner]
    split
    · rename_i hc
      simp only [Bool.and_eq_true, decide_eq_true_eq] at hc
      by_cases htj : t ≤ j
      · refine ih _ (by rw [swpN_size]; omega) (fun u h3 h4 => ?_) t h1 htj
        rw [swpN_get d hj (by omega)]
        by_cases huj : u = j
        · rw [if_pos huj]; exact h _ (by omega) (Nat.le_refl _)
        · rw [if_neg huj, if_neg (by omega)]; exact h u h3 (by omega)
      · obtain rfl : t = j + 1 := by omega
        rw [ins_above lt a j _ (by rw [swpN_size]; omega) _ (by omega), swpN_get d hj (by omega), if_neg (by omega), if_pos rfl]
        exact h j (by omega) (by omega)
    · exact h t h1 h2
theorem ins_same (a : Nat) : ∀ (j : Nat) (d : Array Nb), j < d.size → (∀ t, a ≤ t → t < j → d[t]!.n < d[j]!.n) → Sort.insInner ltW a j d = Sort.insInner ltN a j d := by
  intro j
  induction j with
  | zero => intro d _ _; rfl
  | succ j ih =>
    intro d hj h
    rw [Sort.insInner, Sort.insInner]
    by_cases hja : j + 1 > a
    · have e : ltW d[j + 1]! d[j]! = ltN d[j + 1]! d[j]! := (ltN_back (h j (by omega) (by omega))).symm
      rw [e]
      split
      · refine ih _ (by rw [swpN_size]; omega) fun t h1 h2 => ?_
        rw [swpN_get d hj (by omega), swpN_get d hj (by omega), if_neg (by omega), if_neg (by omega), if_pos rfl]
        exact h t h1 (by omega)
      · rfl
    · simp [hja]
theorem outer_same (a b : Nat) : ∀ (n i : Nat) (d : Array Nb), b - i = n → a < i → b ≤ d.size → (∀ t u, a ≤ t → t < i → i ≤ u → u < b → d[t]!.n < d[u]!.n) → (∀ t u, i ≤ t → t < u → u < b → d[t]!.n < d[u]!.n) → Sort.insOuter ltW a b i d = Sort.insOuter ltN a b i d := by
  intro n
  induction n with
  | zero =>
    intro i d h1 h2 h3 _ _
    rw [insOuter_stop ltW _ _ _ _ (by omega), insOuter_stop ltN _ _ _ _ (by omega)]
  | succ n ih =>
    intro i d h1 h2 h3 h4 h5
    have hib : i < b := by omega
    rw [insOuter_go ltW _ _ _ _ hib, insOuter_go ltN _ _ _ _ hib, ins_same a i d (by omega) (fun t h6 h7 => h4 t i h6 h7 (Nat.le_refl _) hib)]
    refine ih (i + 1) _ (by omega) (by omega) (by rw [ins_size]; exact h3) (fun t u h6 h7 h8 h9 => ?_) (fun t u h6 h7 h8 => ?_)
    · rw [ins_above ltN a i d (by omega) u (by omega)]
      exact ins_all ltN a (fun z => z.n < d[u]!.n) i d (by omega) (fun v h10 h11 => by
        by_cases hv : v = i
        · subst hv; exact h5 v u (Nat.le_refl _) (by omega) h9
        · exact h4 v u h10 (by omega) (by omega) h9) t h6 (by omega)
    · rw [ins_above ltN a i d (by omega) u (by omega), ins_above ltN a i d (by omega) t (by omega)]
      exact h5 t u (by omega) h7 h8
theorem swoN2 : Sort.SWO ltN := ⟨fun x => ltN_swo.irr x, fun _ _ _ h1 h2 => ltN_swo.trans h1 h2, fun _ _ _ h1 h2 => ltN_swo.ntr h1 h2⟩
/-- The insertion sort of a part. -/
theorem ins_part (A X C : List Nb) (h : X.Pairwise fun x y => x.n < y.n) : (Sort.insertionSort ltW (A ++ X ++ C).toArray A.length (A.length + X.length)).toList = A ++ srt ltN X ++ C := by
  obtain ⟨d, ed⟩ : ∃ d, d = (A ++ X ++ C).toArray := ⟨_, rfl⟩
  have hsz : d.size = A.length + X.length + C.length := by rw [ed]; simp; omega
  have hget : ∀ i, i < X.length → d[A.length + i]! = X[i]! := fun i hi => by
    rw [getElem!_pos d _ (by omega), getElem!_pos X i hi]
    have : d[A.length + i]? = X[i]? := by
      rw [ed]
      simp only [List.getElem?_toArray]
      rw [List.append_assoc, List.getElem?_append_right (by omega), Nat.add_sub_cancel_left, List.getElem?_append_left hi]
    rw [Array.getElem?_eq_getElem (by omega), List.getElem?_eq_getElem hi] at this
    exact Option.some.inj this
  have hr : ∀ t u, A.length ≤ t → t < u → u < A.length + X.length → d[t]!.n < d[u]!.n := fun t u h1 h2 h3 => by
    obtain ⟨i, rfl⟩ : ∃ i, t = A.length + i := ⟨t - A.length, by omega⟩
    obtain ⟨j, rfl⟩ : ∃ j, u = A.length + j := ⟨u - A.length, by omega⟩
    rw [hget i (by omega), hget j (by omega), getElem!_pos X i (by omega), getElem!_pos X j (by omega)]
    exact List.pairwise_iff_getElem.1 h i j (by omega) (by omega) (by omega)
  rw [← ed]
  have e1 : Sort.insertionSort ltW d A.length (A.length + X.length) = Sort.insertionSort ltN d A.length (A.length + X.length) := by
    unfold Sort.insertionSort
    by_cases hX : X.length = 0
    · rw [insOuter_stop ltW _ _ _ _ (by omega), insOuter_stop ltN _ _ _ _ (by omega)]
    · exact outer_same _ _ _ _ d rfl (by omega) (by omega) (fun t u h1 h2 h3 h4 => hr t u h1 (by omega) h4) (fun t u h1 h2 h3 => hr t u (by omega) h2 h3)
  rw [e1]
  obtain ⟨⟨p1, p2, p3⟩, p4⟩ := Sort.insertionSort_holds (lt := ltN) swoN2 d A.length (A.length + X.length) (by omega) (by omega)
  generalize Sort.insertionSort ltN d A.length (A.length + X.length) = d' at p1 p2 p3 p4 ⊢
  have hX : (d.extract A.length (A.length + X.length)).toList = X := by
    rw [ed]
    simp only [List.extract_toArray]
    simp [List.extract_eq_take_drop]
  rw [hX] at p3
  have hS : (d'.extract A.length (A.length + X.length)).toList.Pairwise fun a b => ltN b a = false := by
    rw [List.pairwise_iff_getElem]
    intro i j hi hj hij
    simp only [Array.length_toList, Array.size_extract] at hi hj
    have := p4 (A.length + i) (A.length + j) (by omega) (by omega) (by omega)
    rw [getElem!_pos d' _ (by omega), getElem!_pos d' _ (by omega)] at this
    simpa using this
  have hD : Dis X := h.imp fun h => by omega
  have hS2 := hD.srt p3 hS
  rw [← hS2]
  apply List.ext_getElem?
  intro t
  rw [Array.getElem?_toList]
  have hlen : (d'.extract A.length (A.length + X.length)).toList.length = X.length := by simp; omega
  by_cases h1 : t < A.length
  · have := p2 t (.inl h1)
    rw [getElem!_pos d' t (by omega), getElem!_pos d t (by omega)] at this
    rw [Array.getElem?_eq_getElem (by omega), this, List.append_assoc, List.getElem?_append_left h1, ← Array.getElem?_eq_getElem (by omega), ed]
    rw [List.getElem?_toArray, List.append_assoc, List.getElem?_append_left h1]
  · by_cases h2 : t < A.length + X.length
    · rw [List.append_assoc, List.getElem?_append_right (by omega), List.getElem?_append_left (by rw [hlen]; omega), Array.getElem?_toList, Array.getElem?_extract]
      rw [if_pos (by omega)]
      congr 1
      omega
    · have hq : (A ++ (d'.extract A.length (A.length + X.length)).toList ++ C)[t]? = C[t - (A.length + X.length)]? := by
        rw [List.getElem?_append_right (by rw [List.length_append, hlen]; omega), List.length_append, hlen]
      have hq2 : d[t]? = C[t - (A.length + X.length)]? := by
        rw [ed]
        simp only [List.getElem?_toArray]
        rw [List.getElem?_append_right (by rw [List.length_append]; omega), List.length_append]
      rw [hq, ← hq2]
      by_cases h3 : t < d.size
      · have := p2 t (.inr (by omega))
        rw [getElem!_pos d' t (by omega), getElem!_pos d t h3] at this
        rw [Array.getElem?_eq_getElem (by omega), Array.getElem?_eq_getElem h3, this]
      · rw [Array.getElem?_eq_none (by omega), Array.getElem?_eq_none (by omega)]
end Go.Proofs.Ytnfkjblhnpnaeaa
