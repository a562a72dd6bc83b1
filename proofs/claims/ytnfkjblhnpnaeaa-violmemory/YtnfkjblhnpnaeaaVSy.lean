/- What is proved: plain facts on merging two sorted parts of a row by turning its middle; no condition. -/
import Derived.Test.YtnfkjblhnpnaeaaVHp
namespace Go.Proofs.Ytnfkjblhnpnaeaa

/-- Strictly rising. -/
def StS (l : List Nb) : Prop := l.Pairwise fun a b => ltN a b = true
theorem StS.eqs {S l : List Nb} (h : StS S) (p : S.Perm l) : S = srt ltN l := srt_uniq ltN_swo p h
theorem StS.of_srt {l : List Nb} (h : Dis l) : StS (srt ltN l) := by
  have hd : Dis (srt ltN l) := h.perm (srt_perm _ _).symm
  exact (List.Pairwise.and (srt_pw ltN_swo l) hd).imp fun ⟨h1, h2⟩ => (ltN_tot h2).resolve_right (by rw [h1]; decide)
theorem StS.at {l : List Nb} (h : StS l) {i j : Nat} {x y : Nb} (hx : l[i]? = some x) (hy : l[j]? = some y) (hij : i ≤ j) : x = y ∨ ltN x y = true := by
  obtain ⟨h1, rfl⟩ := List.getElem?_eq_some_iff.1 hx
  obtain ⟨h2, rfl⟩ := List.getElem?_eq_some_iff.1 hy
  rcases Nat.lt_or_eq_of_le hij with h3 | h3
  · exact .inr (List.pairwise_iff_getElem.1 h i j h1 h2 h3)
  · subst h3; exact .inl rfl
theorem lt_chain {x x' y y' : Nb} (h1 : x = x' ∨ ltN x x' = true) (h2 : ltN x' y' = true) (h3 : y' = y ∨ ltN y' y = true) : ltN x y = true := by
  rcases h1 with rfl | h1 <;> rcases h3 with rfl | h3
  · exact h2
  · exact ltN_swo.trans h2 h3
  · exact ltN_swo.trans h1 h2
  · exact ltN_swo.trans h1 (ltN_swo.trans h2 h3)
/-- Of two numbers the later: it comes before just where the order says so. -/
theorem ltN_back {x y : Nb} (h : x.n < y.n) : ltN y x = ltV y.v x.v := by
  cases h1 : ltN y x
  · cases h2 : ltV y.v x.v
    · rfl
    · rw [(ltN_iff y x).2 (.inl h2)] at h1
      cases h1
  · rcases (ltN_iff y x).1 h1 with h2 | ⟨_, h2⟩
    · exact h2.symm
    · omega
theorem ltN_fore {x y : Nb} (h : x.n < y.n) (h2 : ltV y.v x.v = false) : ltN x y = true := (ltN_tot (a := x) (b := y) (by omega)).resolve_right (by rw [ltN_back h, h2]; decide)
theorem mem_take {l : List Nb} {c : Nat} {x : Nb} (h : x ∈ l.take c) : ∃ i, i < c ∧ l[i]? = some x := by
  obtain ⟨i, hi, rfl⟩ := List.getElem_of_mem h
  rw [List.length_take] at hi
  exact ⟨i, by omega, by rw [List.getElem_take]; exact List.getElem?_eq_getElem (by omega)⟩
theorem mem_drop {l : List Nb} {c : Nat} {x : Nb} (h : x ∈ l.drop c) : ∃ i, c ≤ i ∧ l[i]? = some x := by
  obtain ⟨i, hi, rfl⟩ := List.getElem_of_mem h
  rw [List.length_drop] at hi
  exact ⟨c + i, by omega, by rw [List.getElem_drop]; exact List.getElem?_eq_getElem (by omega)⟩
theorem StS.split {l : List Nb} (h : StS l) (c : Nat) : StS (l.take c) ∧ StS (l.drop c) ∧ ∀ x ∈ l.take c, ∀ y ∈ l.drop c, ltN x y = true := by
  have h' := h
  rw [← List.take_append_drop c l] at h'
  exact List.pairwise_append.1 h'
theorem StS.join {a b : List Nb} (h1 : StS a) (h2 : StS b) (h3 : ∀ x ∈ a, ∀ y ∈ b, ltN x y = true) : StS (a ++ b) := List.pairwise_append.2 ⟨h1, h2, h3⟩
/-- One ahead of a sorted part finds its place. -/
theorem put_fore {x : Nb} {R : List Nb} (hR : StS R) (hn : ∀ y ∈ R, x.n < y.n) {c : Nat} (h1 : ∀ i y, i < c → R[i]? = some y → ltV y.v x.v = true) (h2 : ∀ i y, c ≤ i → R[i]? = some y → ltV y.v x.v = false) : R.take c ++ [x] ++ R.drop c = srt ltN ([x] ++ R) := by
  obtain ⟨s1, s2, s3⟩ := hR.split c
  refine StS.eqs (StS.join (StS.join s1 (List.pairwise_singleton _ _) ?_) s2 ?_) ?_
  · intro y hy z hz
    rw [List.mem_singleton] at hz
    subst hz
    obtain ⟨i, hi, e⟩ := mem_take hy
    rw [ltN_back (hn y (List.mem_of_getElem? e))]
    exact h1 i y hi e
  · intro y hy z hz
    rcases List.mem_append.1 hy with hy | hy
    · exact s3 y hy z hz
    · rw [List.mem_singleton] at hy
      subst hy
      obtain ⟨i, hi, e⟩ := mem_drop hz
      exact ltN_fore (hn z (List.mem_of_getElem? e)) (h2 i z hi e)
  · conv => rhs; rw [← List.take_append_drop c R]
    rw [← List.append_assoc]
    exact (List.perm_append_comm).append_right _
/-- One behind a sorted part finds its place. -/
theorem put_back {y : Nb} {L : List Nb} (hL : StS L) (hn : ∀ x ∈ L, x.n < y.n) {c : Nat} (h1 : ∀ i x, i < c → L[i]? = some x → ltV y.v x.v = false) (h2 : ∀ i x, c ≤ i → L[i]? = some x → ltV y.v x.v = true) : L.take c ++ [y] ++ L.drop c = srt ltN (L ++ [y]) := by
  obtain ⟨s1, s2, s3⟩ := hL.split c
  refine StS.eqs (StS.join (StS.join s1 (List.pairwise_singleton _ _) ?_) s2 ?_) ?_
  · intro x hx z hz
    rw [List.mem_singleton] at hz
    subst hz
    obtain ⟨i, hi, e⟩ := mem_take hx
    exact ltN_fore (hn x (List.mem_of_getElem? e)) (h1 i x hi e)
  · intro x hx z hz
    rcases List.mem_append.1 hx with hx | hx
    · exact s3 x hx z hz
    · rw [List.mem_singleton] at hx
      subst hx
      obtain ⟨i, hi, e⟩ := mem_drop hz
      rw [ltN_back (hn z (List.mem_of_getElem? e))]
      exact h2 i z hi e
  · conv => rhs; rw [← List.take_append_drop c L]
    rw [List.append_assoc, List.append_assoc]
    exact (List.perm_append_comm).append_left _
/-- Both halves behind the turn, sorted each, are the whole, sorted. -/
theorem sym_join {L R : List Nb} (hL : StS L) (hR : StS R) (hd : Dis (L ++ R)) (c d : Nat) (hA : ∀ x ∈ L.take c, ∀ y ∈ R.drop d, ltN x y = true) (hB : ∀ y ∈ R.take d, ∀ x ∈ L.drop c, ltN y x = true) :
    srt ltN (L.take c ++ R.take d) ++ srt ltN (L.drop c ++ R.drop d) = srt ltN (L ++ R) := by
  obtain ⟨a1, a2, a3⟩ := hL.split c
  obtain ⟨b1, b2, b3⟩ := hR.split d
  have p : ((L.take c ++ R.take d) ++ (L.drop c ++ R.drop d)).Perm (L ++ R) := by
    conv => rhs; rw [← List.take_append_drop c L, ← List.take_append_drop d R]
    simp only [List.append_assoc]
    refine List.Perm.append_left _ ?_
    rw [← List.append_assoc, ← List.append_assoc]
    exact (List.perm_append_comm).append_right _
  have hd2 := hd.perm p.symm
  obtain ⟨d1, d2, -⟩ := List.pairwise_append.1 hd2
  refine StS.eqs (StS.join (StS.of_srt d1) (StS.of_srt d2) ?_) (((srt_perm _ _).append (srt_perm _ _)).trans p)
  intro x hx y hy
  have hx := (srt_perm ltN _).mem_iff.1 hx
  have hy := (srt_perm ltN _).mem_iff.1 hy
  rcases List.mem_append.1 hx with hx | hx <;> rcases List.mem_append.1 hy with hy | hy
  · exact a3 x hx y hy
  · exact hA x hx y hy
  · exact hB x hx y hy
  · exact b3 x hx y hy
/-- Where the middle is to be turned. -/
theorem sym_cut {L R : List Nb} (hL : StS L) (hR : StS R) (hn : ∀ x ∈ L, ∀ y ∈ R, x.n < y.n) {a m b mid n s0 r0 s : Nat} (hm : m = a + L.length) (hb : b = m + R.length) (hl0 : 0 < L.length) (hr0 : 0 < R.length) (hmid : mid = (a + b) / 2) (hn' : n = mid + m)
    (hc : (mid < m ∧ s0 = n - b ∧ r0 = mid) ∨ (m ≤ mid ∧ s0 = a ∧ r0 = m)) (h1 : s0 ≤ s) (h2 : s ≤ r0)
    (hlo : ∀ c x y, s0 ≤ c → c < s → L[c - a]? = some x → R[n - 1 - c - m]? = some y → ltV y.v x.v = false) (hhi : ∀ c x y, s ≤ c → c < r0 → L[c - a]? = some x → R[n - 1 - c - m]? = some y → ltV y.v x.v = true) :
    (∀ x ∈ L.take (s - a), ∀ y ∈ R.drop (n - s - m), ltN x y = true) ∧ (∀ y ∈ R.take (n - s - m), ∀ x ∈ L.drop (s - a), ltN y x = true) := by
  constructor
  · intro x hx y hy
    obtain ⟨i, hi, ex⟩ := mem_take hx
    obtain ⟨j, hj, ey⟩ := mem_drop hy
    have hjl := (List.getElem?_eq_some_iff.1 ey).1
    have hil := (List.getElem?_eq_some_iff.1 ex).1
    have hs : s0 < s := by omega
    obtain ⟨x', ex'⟩ : ∃ x', L[s - 1 - a]? = some x' := ⟨_, List.getElem?_eq_getElem (by omega)⟩
    obtain ⟨y', ey'⟩ : ∃ y', R[n - 1 - (s - 1) - m]? = some y' := ⟨_, List.getElem?_eq_getElem (by omega)⟩
    have h5 := hlo (s - 1) x' y' (by omega) (by omega) ex' ey'
    refine lt_chain (hL.at ex ex' (by omega)) (ltN_fore (hn x' (List.mem_of_getElem? ex') y' (List.mem_of_getElem? ey')) h5) (hR.at ey' ey (by omega))
  · intro y hy x hx
    obtain ⟨j, hj, ey⟩ := mem_take hy
    obtain ⟨i, hi, ex⟩ := mem_drop hx
    have hjl := (List.getElem?_eq_some_iff.1 ey).1
    have hil := (List.getElem?_eq_some_iff.1 ex).1
    have hs : s < r0 := by omega
    obtain ⟨x', ex'⟩ : ∃ x', L[s - a]? = some x' := ⟨_, List.getElem?_eq_getElem (by omega)⟩
    obtain ⟨y', ey'⟩ : ∃ y', R[n - 1 - s - m]? = some y' := ⟨_, List.getElem?_eq_getElem (by omega)⟩
    have h5 := hhi s x' y' (Nat.le_refl _) hs ex' ey'
    refine lt_chain (hR.at ey ey' (by omega)) ?_ (hL.at ex' ex (by omega))
    rw [ltN_back (hn x' (List.mem_of_getElem? ex') y' (List.mem_of_getElem? ey'))]
    exact h5
end Go.Proofs.Ytnfkjblhnpnaeaa
