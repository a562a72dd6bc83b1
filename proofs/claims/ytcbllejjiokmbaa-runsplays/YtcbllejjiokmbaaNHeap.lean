/- What is proved: plain facts on a heap of places kept in a list: what putting one in and taking the first out leave; no condition. -/
import Derived.Test.YtcbllejjiokmbaaNSort
namespace Go.Proofs.Ytcbllejjiokmbaa

/-- The list with the items of two places changed. -/
def swp (L : List Nat) (i j : Nat) : List Nat := (L.set i (L.getD j 0)).set j (L.getD i 0)
theorem getD_at {L : List Nat} {i : Nat} (h : i < L.length) : L.getD i 0 = L[i] := by simp [h]
theorem swp_len (L : List Nat) (i j : Nat) : (swp L i j).length = L.length := by simp [swp]
theorem swp_perm {L : List Nat} {i j : Nat} (hi : i < L.length) (hj : j < L.length) : (swp L i j).Perm L := by
  have h := Array.swap_perm (xs := L.toArray) (i := i) (j := j) (by simpa using hi) (by simpa using hj)
  rw [List.swap_toArray] at h
  have h2 := Array.perm_iff_toList_perm.1 h
  simp only [] at h2
  unfold swp
  rw [getD_at hi, getD_at hj]
  exact h2
theorem getD_set {L : List Nat} {i : Nat} (x : Nat) (hi : i < L.length) (k : Nat) : (L.set i x).getD k 0 = if k = i then x else L.getD k 0 := by
  rw [List.getD_eq_getElem?_getD, List.getD_eq_getElem?_getD, List.getElem?_set]
  by_cases h : k = i
  · subst h; simp [hi]
  · rw [if_neg (fun e => h e.symm), if_neg h]
theorem swp_get {L : List Nat} {i j : Nat} (hi : i < L.length) (hj : j < L.length) (k : Nat) : (swp L i j).getD k 0 = if k = j then L.getD i 0 else if k = i then L.getD j 0 else L.getD k 0 := by
  unfold swp
  rw [getD_set _ (by simpa using hj), getD_set _ hi]
/-- Above each item stands none that comes behind it. -/
def Hp (lt : Nat → Nat → Bool) (L : List Nat) : Prop := ∀ k, 0 < k → k < L.length → lt (L.getD k 0) (L.getD ((k - 1) / 2) 0) = false
/-- The same but for the item at a place, which may have to rise. -/
structure Up (lt : Nat → Nat → Bool) (L : List Nat) (a : Nat) : Prop where
  inr : a < L.length
  rest : ∀ k, 0 < k → k < L.length → k ≠ a → lt (L.getD k 0) (L.getD ((k - 1) / 2) 0) = false
  below : ∀ k, 0 < k → k < L.length → (k - 1) / 2 = a → 0 < a → lt (L.getD k 0) (L.getD ((a - 1) / 2) 0) = false
/-- The same but for the item at a place, which may have to sink. -/
structure Dn (lt : Nat → Nat → Bool) (L : List Nat) (a : Nat) : Prop where
  rest : ∀ k, 0 < k → k < L.length → (k - 1) / 2 ≠ a → lt (L.getD k 0) (L.getD ((k - 1) / 2) 0) = false
  below : ∀ k, 0 < k → k < L.length → (k - 1) / 2 = a → 0 < a → lt (L.getD k 0) (L.getD ((a - 1) / 2) 0) = false
theorem getD_app {L : List Nat} {k : Nat} (x : Nat) (h : k < L.length) : (L ++ [x]).getD k 0 = L.getD k 0 := by
  rw [List.getD_eq_getElem?_getD, List.getD_eq_getElem?_getD, List.getElem?_append_left h]
theorem Up.start {lt : Nat → Nat → Bool} {L : List Nat} (h : Hp lt L) (x : Nat) : Up lt (L ++ [x]) L.length := by
  refine ⟨by simp, fun k h0 h1 h2 => ?_, fun k h0 h1 h2 => ?_⟩
  · simp only [List.length_append, List.length_cons, List.length_nil] at h1
    rw [getD_app _ (by omega), getD_app _ (by omega)]
    exact h k h0 (by omega)
  · simp only [List.length_append, List.length_cons, List.length_nil] at h1
    omega
theorem Up.step {lt : Nat → Nat → Bool} (o : SWO lt) {L : List Nat} {a : Nat} (h : Up lt L a) (h0 : 0 < a) (hl : lt (L.getD a 0) (L.getD ((a - 1) / 2) 0) = true) : Up lt (swp L a ((a - 1) / 2)) ((a - 1) / 2) := by
  have ha := h.inr
  have hp : (a - 1) / 2 < L.length := by omega
  generalize hq : (a - 1) / 2 = p at *
  have hpa : p ≠ a := by omega
  refine ⟨by rw [swp_len]; exact hp, fun k k0 k1 k2 => ?_, fun k k0 k1 k2 k3 => ?_⟩
  · rw [swp_len] at k1
    rw [swp_get ha hp, swp_get ha hp, if_neg k2]
    by_cases e1 : k = a
    · subst e1
      rw [if_pos rfl, hq, if_pos rfl]
      exact o.asym hl
    · rw [if_neg e1]
      by_cases e2 : (k - 1) / 2 = p
      · rw [if_pos e2]
        -- a brother of a
        have := h.rest k k0 k1 e1
        rw [e2] at this
        exact o.ntr this (o.asym hl)
      · rw [if_neg e2]
        by_cases e3 : (k - 1) / 2 = a
        · rw [if_pos e3]
          have := h.below k k0 k1 e3 h0
          rwa [hq] at this
        · rw [if_neg e3]
          exact h.rest k k0 k1 e1
  · rw [swp_len] at k1
    have hpp : (p - 1) / 2 ≠ p := by omega
    have hpp2 : (p - 1) / 2 ≠ a := by omega
    rw [swp_get ha hp, swp_get ha hp, if_neg hpp, if_neg hpp2]
    have hkp : k ≠ p := by omega
    rw [if_neg hkp]
    have hpr := h.rest p k3 hp hpa
    by_cases e1 : k = a
    · rw [if_pos e1]; exact hpr
    · rw [if_neg e1]
      have := h.rest k k0 k1 e1
      rw [k2] at this
      exact o.ntr this hpr
theorem Up.done {lt : Nat → Nat → Bool} {L : List Nat} {a : Nat} (h : Up lt L a) (hl : 0 < a → lt (L.getD a 0) (L.getD ((a - 1) / 2) 0) = false) : Hp lt L := fun k k0 k1 => by
  by_cases e : k = a
  · subst e; exact hl k0
  · exact h.rest k k0 k1 e
theorem Dn.step {lt : Nat → Nat → Bool} (o : SWO lt) {L : List Nat} {a c : Nat} (h : Dn lt L a) (h0 : 0 < c) (hc : c < L.length) (hpar : (c - 1) / 2 = a) (hl : lt (L.getD c 0) (L.getD a 0) = true)
    (hm : ∀ k, 0 < k → k < L.length → (k - 1) / 2 = a → lt (L.getD k 0) (L.getD c 0) = false) : Dn lt (swp L a c) c := by
  have ha : a < L.length := by omega
  have hca : c ≠ a := by omega
  refine ⟨fun k k0 k1 k2 => ?_, fun k k0 k1 k2 k3 => ?_⟩
  · rw [swp_len] at k1
    rw [swp_get ha hc, swp_get ha hc, if_neg k2]
    by_cases e1 : k = c
    · subst e1
      rw [if_pos rfl, if_pos hpar]
      exact o.asym hl
    · rw [if_neg e1]
      by_cases e2 : (k - 1) / 2 = a
      · rw [if_pos e2, if_neg (by omega)]
        exact hm k k0 k1 e2
      · rw [if_neg e2]
        by_cases e3 : k = a
        · subst e3
          rw [if_pos rfl]
          exact h.below c h0 hc hpar k0
        · rw [if_neg e3]
          exact h.rest k k0 k1 e2
  · rw [swp_len] at k1
    rw [swp_get ha hc, swp_get ha hc, hpar, if_neg (by omega), if_neg (by omega), if_neg (fun e => hca e.symm), if_pos rfl]
    have := h.rest k k0 k1 (by omega)
    rwa [k2] at this
theorem Dn.done {lt : Nat → Nat → Bool} {L : List Nat} {a : Nat} (h : Dn lt L a) (hm : ∀ k, 0 < k → k < L.length → (k - 1) / 2 = a → lt (L.getD k 0) (L.getD a 0) = false) : Hp lt L := fun k k0 k1 => by
  by_cases e : (k - 1) / 2 = a
  · rw [e]; exact hm k k0 k1 e
  · exact h.rest k k0 k1 e
/-- What taking the first out leaves ahead of the sinking. -/
def cut0 (L : List Nat) : List Nat := (L.set 0 (L.getD (L.length - 1) 0)).take (L.length - 1)
theorem cut0_len (L : List Nat) : (cut0 L).length = L.length - 1 := by simp [cut0]
theorem cut0_get {L : List Nat} {k : Nat} (h0 : 0 < k) (h : k < L.length - 1) : (cut0 L).getD k 0 = L.getD k 0 := by
  unfold cut0
  rw [List.getD_eq_getElem?_getD, List.getElem?_take_of_lt h, ← List.getD_eq_getElem?_getD, getD_set _ (by omega), if_neg (by omega)]
theorem cut0_perm {L : List Nat} (h : 0 < L.length) : (L.getD 0 0 :: cut0 L).Perm L := by
  cases L with
  | nil => simp at h
  | cons x t =>
    have e : cut0 (x :: t) = (t.getLastD x :: t).dropLast := by
      rw [List.dropLast_eq_take]
      simp only [cut0, List.length_cons, Nat.add_sub_cancel, List.set_cons_zero]
      congr 2
      rw [List.getD_eq_getElem?_getD]
      cases t with
      | nil => rfl
      | cons y t => simp [List.getLastD_eq_getLast?, List.getLast?_eq_getElem?]
    rw [e]
    show (x :: _).Perm (x :: t)
    refine List.Perm.cons x ?_
    rcases List.eq_nil_or_concat t with rfl | ⟨t', y, rfl⟩
    · exact List.Perm.refl _
    · rw [List.concat_eq_append]
      rw [show (t' ++ [y]).getLastD x = y by simp, List.dropLast_cons_of_ne_nil (by simp), List.dropLast_concat]
      exact (List.perm_append_singleton y t').symm
theorem Dn.start {lt : Nat → Nat → Bool} {L : List Nat} (h : Hp lt L) : Dn lt (cut0 L) 0 := by
  refine ⟨fun k k0 k1 k2 => ?_, fun k k0 k1 k2 k3 => absurd k3 (by omega)⟩
  rw [cut0_len] at k1
  rw [cut0_get k0 k1, cut0_get (by omega) (by omega)]
  exact h k k0 (by omega)
/-- The first comes behind none. -/
theorem Hp.first {lt : Nat → Nat → Bool} (o : SWO lt) {L : List Nat} (h : Hp lt L) : ∀ k, k < L.length → lt (L.getD k 0) (L.getD 0 0) = false := by
  intro k
  induction k using Nat.strongRecOn with
  | ind k ih =>
    intro hk
    by_cases h0 : k = 0
    · subst h0; exact o.irr _
    · exact o.ntr (h k (by omega) hk) (ih ((k - 1) / 2) (by omega) (by omega))
theorem Hp.mem {lt : Nat → Nat → Bool} (o : SWO lt) {L : List Nat} (h : Hp lt L) {x : Nat} (hx : x ∈ L) : lt x (L.getD 0 0) = false := by
  obtain ⟨i, hi, rfl⟩ := List.getElem_of_mem hx
  have := h.first o i hi
  rwa [getD_at hi] at this
theorem Hp.nil (lt : Nat → Nat → Bool) : Hp lt [] := fun k _ h => by simp at h
/-- The places taken out so far, and those still in. -/
structure Outs (lt : Nat → Nat → Bool) (n : Nat) (o L : List Nat) : Prop where
  hp : Hp lt L
  perm : (o ++ L).Perm (List.range n)
  pw : o.Pairwise fun a b => lt a b = true
  ahead : ∀ a ∈ o, ∀ b ∈ L, lt a b = true
theorem Outs.start {lt : Nat → Nat → Bool} {n : Nat} {L : List Nat} (h : Hp lt L) (hp : L.Perm (List.range n)) : Outs lt n [] L := ⟨h, hp, List.Pairwise.nil, fun a ha => by simp at ha⟩
theorem Outs.step {lt : Nat → Nat → Bool} (s : SWO lt) (tot : ∀ a b, a ≠ b → lt a b = true ∨ lt b a = true) {n : Nat} {o L L' : List Nat} (h : Outs lt n o L) (h1 : Hp lt L') (h2 : (L.getD 0 0 :: L').Perm L) :
    Outs lt n (o ++ [L.getD 0 0]) L' := by
  have hmem : L.getD 0 0 ∈ L := h2.mem_iff.1 (by simp)
  have hnd : (o ++ (L.getD 0 0 :: L')).Nodup := ((h2.append_left o).trans h.perm).nodup_iff.2 List.nodup_range
  have hp : (o ++ [L.getD 0 0] ++ L').Perm (List.range n) := by
    rw [List.append_assoc]
    exact (h2.append_left o).trans h.perm
  have hfirst : ∀ b ∈ L', lt (L.getD 0 0) b = true := fun b hb => by
    have hne : L.getD 0 0 ≠ b := by
      rintro rfl
      have := (List.nodup_append.1 hnd).2.1
      rw [List.nodup_cons] at this
      exact this.1 hb
    rcases tot _ _ hne with e | e
    · exact e
    · have := h.hp.mem s (h2.mem_iff.1 (List.mem_cons_of_mem _ hb))
      rw [this] at e; cases e
  refine ⟨h1, hp, ?_, fun a ha b hb => ?_⟩
  · rw [List.pairwise_append]
    refine ⟨h.pw, List.pairwise_singleton _ _, fun a ha b hb => ?_⟩
    rw [List.mem_singleton] at hb
    subst hb
    exact h.ahead a ha _ hmem
  · rcases List.mem_append.1 ha with ha | ha
    · exact h.ahead a ha b (h2.mem_iff.1 (List.mem_cons_of_mem _ hb))
    · rw [List.mem_singleton] at ha
      subst ha
      exact hfirst b hb
theorem plt_tot (lt : RwM → RwM → Bool) (l : List RwM) (a b : Nat) (h : a ≠ b) : plt lt l a b = true ∨ plt lt l b a = true := by
  simp only [plt]
  cases lt (l.getD a r0) (l.getD b r0) <;> cases lt (l.getD b r0) (l.getD a r0) <;> simp <;> omega
end Go.Proofs.Ytcbllejjiokmbaa
