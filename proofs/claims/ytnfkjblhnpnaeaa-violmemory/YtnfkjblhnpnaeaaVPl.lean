/- What is proved: plain facts on the first of many: what is held when one more was put is the beginning of all that were put, sorted; no condition. -/
import Derived.Test.YtnfkjblhnpnaeaaVCmp
namespace Go.Proofs.Ytnfkjblhnpnaeaa

/-- The order of the heap: the last ahead. -/
def gtN (a b : Nb) : Bool := ltN b a
theorem gtN_swo : SWO gtN := ⟨fun h => ltN_swo.asym h, fun h1 h2 => ltN_swo.ntr h2 h1⟩
/-- Each has a number of its own. -/
def Dis (l : List Nb) : Prop := l.Pairwise fun a b => a.n ≠ b.n
theorem Dis.perm {a b : List Nb} (h : Dis a) (p : a.Perm b) : Dis b := (List.Perm.pairwise_iff (R := fun a b : Nb => a.n ≠ b.n) (fun h => Ne.symm h) p).1 h
theorem Dis.srt {l o : List Nb} (h : Dis l) (p : o.Perm l) (ho : o.Pairwise fun a b => ltN b a = false) : o = srt ltN l := by
  refine srt_uniq ltN_swo p ?_
  have hd : Dis o := h.perm p.symm
  exact (List.Pairwise.and ho hd).imp fun ⟨h1, h2⟩ => (ltN_tot h2).resolve_right (by rw [h1]; decide)
/-- Violations with their numbers from k on. -/
def nbs (k : Nat) : List Vl → List Nb
  | [] => []
  | v :: l => ⟨v, (k : Int)⟩ :: nbs (k + 1) l
theorem nbs_len (k : Nat) (l : List Vl) : (nbs k l).length = l.length := by
  induction l generalizing k with
  | nil => rfl
  | cons v l ih => simp [nbs, ih]
theorem nbs_snoc (k : Nat) (l : List Vl) (v : Vl) : nbs k (l ++ [v]) = nbs k l ++ [⟨v, ((k + l.length : Nat) : Int)⟩] := by
  induction l generalizing k with
  | nil => rfl
  | cons x l ih =>
    simp only [List.cons_append, nbs, ih, List.length_cons]
    congr 5
    omega
theorem nbs_ge {k : Nat} {l : List Vl} {x : Nb} (h : x ∈ nbs k l) : (k : Int) ≤ x.n := by
  induction l generalizing k with
  | nil => cases h
  | cons v l ih =>
    rcases List.mem_cons.1 h with rfl | h
    · exact Int.le_refl _
    · have := ih h
      omega
theorem nbs_dis (k : Nat) (l : List Vl) : Dis (nbs k l) := by
  induction l generalizing k with
  | nil => exact List.Pairwise.nil
  | cons v l ih =>
    refine List.pairwise_cons.2 ⟨fun x hx => ?_, ih _⟩
    have := nbs_ge hx
    show (k : Int) ≠ x.n
    omega
theorem nbs_map (k : Nat) (l : List Vl) : (nbs k l).map (·.v) = l := by
  induction l generalizing k with
  | nil => rfl
  | cons v l ih => simp [nbs, ih]
theorem insL_map {x : Nb} {l : List Nb} (h : ∀ y ∈ l, x.n < y.n) : (insL ltN x l).map (·.v) = insL ltV x.v (l.map (·.v)) := by
  induction l with
  | nil => rfl
  | cons y l ih =>
    have hy := h y (by simp)
    have e : ltN y x = ltV y.v x.v := by
      cases h1 : ltN y x
      · cases h2 : ltV y.v x.v
        · rfl
        · rw [(ltN_iff y x).2 (.inl h2)] at h1
          cases h1
      · rcases (ltN_iff y x).1 h1 with h2 | ⟨_, h2⟩
        · exact h2.symm
        · omega
    simp only [insL, List.map_cons]
    rw [e]
    by_cases h2 : ltV y.v x.v = true
    · rw [if_pos h2, if_pos h2, List.map_cons, ih (fun z hz => h z (by simp [hz]))]
    · rw [if_neg h2, if_neg h2, List.map_cons, List.map_cons]
/-- Sorted with their numbers they are sorted as they stood. -/
theorem srt_nbs (k : Nat) (l : List Vl) : (srt ltN (nbs k l)).map (·.v) = srt ltV l := by
  induction l generalizing k with
  | nil => rfl
  | cons v l ih =>
    show (insL ltN ⟨v, (k : Int)⟩ (srt ltN (nbs (k + 1) l))).map (·.v) = insL ltV v (srt ltV l)
    rw [insL_map, ih]
    intro y hy
    have := nbs_ge ((srt_perm ltN _).mem_iff.1 hy)
    show (k : Int) < y.n
    omega
/-- What is held of all that were put. -/
structure Hd (lim : Nat) (vs : List Vl) (L : List Nb) : Prop where
  hp : Hp gtN L
  len : L.length = min lim vs.length
  rest : ∃ R, (L ++ R).Perm (nbs 0 vs) ∧ ∀ x ∈ L, ∀ y ∈ R, ltN y x = false
theorem Hd.start (lim : Nat) : Hd lim [] [] := ⟨Hp.nil _, by simp, [], List.Perm.refl _, fun x hx => by cases hx⟩
theorem Hd.room {lim : Nat} {vs : List Vl} {L L' : List Nb} (h : Hd lim vs L) (hl : L.length < lim) (v : Vl) (hp : Hp gtN L') (p : L'.Perm (L ++ [⟨v, (vs.length : Int)⟩])) : Hd lim (vs ++ [v]) L' := by
  obtain ⟨R, hR, hx⟩ := h.rest
  have hlen := h.len
  have hR0 : R = [] := by
    have := hR.length_eq
    rw [List.length_append, nbs_len] at this
    exact List.eq_nil_of_length_eq_zero (by omega)
  subst hR0
  rw [List.append_nil] at hR
  refine ⟨hp, ?_, [], ?_, fun x _ y hy => by cases hy⟩
  · rw [p.length_eq, List.length_append, List.length_append]
    simp only [List.length_cons, List.length_nil]
    omega
  · rw [List.append_nil, nbs_snoc, Nat.zero_add]
    exact p.trans (hR.append_right _)
theorem Hd.swap {lim : Nat} {vs : List Vl} {L L' : List Nb} (h : Hd lim vs L) (hl : ¬ L.length < lim) (v : Vl) (h0 : 0 < L.length) (hlt : ltN ⟨v, (vs.length : Int)⟩ (L.getD 0 default) = true) (hp : Hp gtN L') (p : L'.Perm (L.set 0 ⟨v, (vs.length : Int)⟩)) : Hd lim (vs ++ [v]) L' := by
  obtain ⟨R, hR, hx⟩ := h.rest
  have hlen := h.len
  have hmx := fun {x} (hx : x ∈ L) => h.hp.mem gtN_swo hx
  generalize hn : (⟨v, (vs.length : Int)⟩ : Nb) = n at *
  cases L with
  | nil => simp at h0
  | cons m T =>
    simp only [List.set_cons_zero] at p
    simp only [List.getD_cons_zero] at hlt hmx
    refine ⟨hp, ?_, m :: R, ?_, ?_⟩
    · rw [p.length_eq, List.length_append]
      simp only [List.length_cons, List.length_nil] at *
      omega
    · rw [nbs_snoc, Nat.zero_add, hn]
      refine (p.append_right (m :: R)).trans ?_
      refine List.perm_middle.trans ?_
      refine (List.Perm.swap n m (T ++ R)).trans ?_
      exact (hR.cons n).trans (List.perm_append_singleton n _).symm
    · intro x hxm y hy
      have hmy : ∀ y ∈ m :: R, ltN y m = false := fun y hy => by
        rcases List.mem_cons.1 hy with rfl | hy
        · exact ltN_swo.irr _
        · exact hx m (by simp) y hy
      have hxl : ltN m x = false := by
        rcases List.mem_cons.1 (p.mem_iff.1 hxm) with rfl | hxT
        · exact ltN_swo.asym hlt
        · exact hmx (List.mem_cons_of_mem _ hxT)
      exact ltN_swo.ntr (hmy y hy) hxl
theorem Hd.keep {lim : Nat} {vs : List Vl} {L : List Nb} (h : Hd lim vs L) (hl : ¬ L.length < lim) (v : Vl) (hge : lim = 0 ∨ ltN ⟨v, (vs.length : Int)⟩ (L.getD 0 default) = false) : Hd lim (vs ++ [v]) L := by
  obtain ⟨R, hR, hx⟩ := h.rest
  have hlen := h.len
  refine ⟨h.hp, ?_, ⟨v, (vs.length : Int)⟩ :: R, ?_, ?_⟩
  · rw [List.length_append]
    simp only [List.length_cons, List.length_nil]
    omega
  · rw [nbs_snoc, Nat.zero_add]
    refine List.perm_middle.trans ?_
    exact (hR.cons _).trans (List.perm_append_singleton _ _).symm
  · intro x hxm y hy
    rcases List.mem_cons.1 hy with rfl | hy
    · rcases hge with h0 | hge
      · have : L = [] := List.eq_nil_of_length_eq_zero (by omega)
        subst this
        cases hxm
      · exact ltN_swo.ntr hge (h.hp.mem gtN_swo hxm)
    · exact hx x hxm y hy
/-- What is held, sorted, is the beginning of all, sorted. -/
theorem Hd.list {lim : Nat} {vs : List Vl} {L : List Nb} (h : Hd lim vs L) : srt ltN L = (srt ltN (nbs 0 vs)).take lim := by
  obtain ⟨R, hR, hx⟩ := h.rest
  have hlen := h.len
  have e : srt ltN L ++ srt ltN R = srt ltN (nbs 0 vs) := by
    refine (nbs_dis 0 vs).srt (((srt_perm _ _).append (srt_perm _ _)).trans hR) ?_
    refine List.pairwise_append.2 ⟨srt_pw ltN_swo _, srt_pw ltN_swo _, fun x hx1 y hy1 => ?_⟩
    exact hx x ((srt_perm _ _).mem_iff.1 hx1) y ((srt_perm _ _).mem_iff.1 hy1)
  rw [← e]
  by_cases hc : L.length = lim
  · rw [← hc, List.take_append_of_le_length (by rw [srt_len]; exact Nat.le_refl _), List.take_of_length_le (by rw [srt_len]; exact Nat.le_refl _)]
  · have hR0 : R = [] := by
      have := hR.length_eq
      rw [List.length_append, nbs_len] at this
      exact List.eq_nil_of_length_eq_zero (by omega)
    subst hR0
    simp only [srt, List.append_nil]
    rw [List.take_of_length_le]
    rw [srt_len]
    omega
theorem Hd.told {lim : Nat} {vs : List Vl} {L : List Nb} (h : Hd lim vs L) : (srt ltN L).map (·.v) = (srt ltV vs).take lim := by
  rw [h.list, List.map_take, srt_nbs]
theorem Hd.dis {lim : Nat} {vs : List Vl} {L : List Nb} (h : Hd lim vs L) : Dis L := by
  obtain ⟨R, hR, hx⟩ := h.rest
  have := (nbs_dis 0 vs).perm hR.symm
  exact (List.pairwise_append.1 this).1
end Go.Proofs.Ytnfkjblhnpnaeaa
