/- What is proved: plain facts on an order in which every node stands behind its neighbours; no condition. -/
import Derived.Test.YtbhihmkgimdjpaaDoorGhFr
namespace Go.Proofs.YtbhihmkgimdjpaaDoor

def inq (q : List Nat) (y : Nat) : Bool := decide (y ∈ q)
/-- Each was the first free one when it came. -/
def Od (n : Nat) (A : Nat → Nat → Bool) (q : List Nat) : Prop := ∀ (i a : Nat), q[i]? = some a → FrR n A (inq (q.take i)) (some a)
variable {n : Nat} {A : Nat → Nat → Bool} {q : List Nat}
theorem Od.nil : Od n A [] := fun i a h => by simp at h
theorem Od.step (h : Od n A q) {a : Nat} (ha : FrR n A (inq q) (some a)) : Od n A (q ++ [a]) := fun i b hb => by
  by_cases e : i < q.length
  · rw [List.getElem?_append_left e] at hb
    rw [List.take_append_of_le_length (by omega)]
    exact h i b hb
  · have hi : i < (q ++ [a]).length := (List.getElem?_eq_some_iff.1 hb).1
    rw [List.length_append, List.length_singleton] at hi
    obtain rfl : i = q.length := by omega
    rw [List.getElem?_append_right (Nat.le_refl _), Nat.sub_self] at hb
    simp only [List.getElem?_cons_zero, Option.some.injEq] at hb
    subst hb
    rw [List.take_left]
    exact ha
theorem Od.nodup (h : Od n A q) : q.Nodup := by
  rw [List.Nodup, List.pairwise_iff_getElem]
  intro i j hi hj hij e
  have h1 := (h j q[j] (List.getElem?_eq_getElem hj)).2.1.1
  have : q[j] ∈ q.take j := List.mem_of_getElem? (i := i) (by rw [List.getElem?_take, if_pos hij, List.getElem?_eq_getElem hi, e])
  simp [inq, this] at h1
theorem Od.lt (h : Od n A q) {a : Nat} (ha : a ∈ q) : a < n := by
  obtain ⟨i, hi, e⟩ := List.mem_iff_getElem.1 ha
  exact (h i a (by rw [List.getElem?_eq_getElem hi, e])).1
theorem Od.len (h : Od n A q) : q.length ≤ n := by
  have : q.length ≤ (List.range n).length := h.nodup.length_le_of_subset fun y hy => List.mem_range.2 (h.lt hy)
  rwa [List.length_range] at this
theorem Od.ahead (h : Od n A q) {i a b : Nat} (hi : q[i]? = some a) (hab : A a b = true) : ∃ j, j < i ∧ q[j]? = some b := by
  have h1 := (h i a hi).2.1.2 b hab
  simp only [inq, decide_eq_true_eq] at h1
  obtain ⟨j, hj, e⟩ := List.mem_iff_getElem.1 h1
  rw [List.length_take] at hj
  refine ⟨j, by omega, ?_⟩
  rw [List.getElem_take] at e
  rw [List.getElem?_eq_getElem (by omega), e]
theorem Od.way (h : Od n A q) {a b : Nat} (w : Way A a b) : ∀ {i : Nat}, q[i]? = some a → ∃ j, j < i ∧ q[j]? = some b := by
  induction w with
  | one e => exact fun hi => h.ahead hi e
  | more _ e ih =>
    intro i hi
    obtain ⟨j, hj, hq⟩ := ih hi
    obtain ⟨k, hk, hq2⟩ := h.ahead hq e
    exact ⟨k, by omega, hq2⟩
theorem get_inj {α : Type} {l : List α} (h : l.Nodup) {i j : Nat} {a : α} (hi : l[i]? = some a) (hj : l[j]? = some a) : i = j := by
  obtain ⟨h1, e1⟩ := List.getElem?_eq_some_iff.1 hi
  obtain ⟨h2, e2⟩ := List.getElem?_eq_some_iff.1 hj
  rw [List.Nodup, List.pairwise_iff_getElem] at h
  rcases Nat.lt_trichotomy i j with e | e | e
  · exact absurd (e1.trans e2.symm) (h i j h1 h2 e)
  · exact e
  · exact absurd (e2.trans e1.symm) (h j i h2 h1 e)
theorem Od.free (h : Od n A q) {a : Nat} (ha : a ∈ q) : ¬ Way A a a := fun w => by
  obtain ⟨i, hi, e⟩ := List.mem_iff_getElem.1 ha
  have e2 : q[i]? = some a := by rw [List.getElem?_eq_getElem hi, e]
  obtain ⟨j, hj, e3⟩ := h.way w e2
  have := get_inj h.nodup e2 e3
  omega
theorem Od.all (h : Od n A q) (hl : q.length = n) {a : Nat} (ha : a < n) : a ∈ q := by
  apply Classical.byContradiction
  intro hno
  have hn : (a :: q).Nodup := List.nodup_cons.2 ⟨hno, h.nodup⟩
  have : (a :: q).length ≤ (List.range n).length := hn.length_le_of_subset fun y hy => by
    rcases List.mem_cons.1 hy with e | e
    · exact List.mem_range.2 (by omega)
    · exact List.mem_range.2 (h.lt e)
  rw [List.length_range, List.length_cons] at this
  omega
/-- Nodes that each have one of them as a neighbour hold a circle. -/
theorem circle {U : Nat → Prop} (hU : ∀ a, U a → a < n) (hs : ∀ a, U a → ∃ b, U b ∧ A a b = true) {a0 : Nat} (h0 : U a0) : ∃ x, x < n ∧ Way A x x := by
  apply Classical.byContradiction
  intro hno
  have hno : ∀ x, x < n → ¬ Way A x x := fun x hx w => hno ⟨x, hx, w⟩
  have grow : ∀ k : Nat, ∃ (h : Nat) (L : List Nat), L.length = k ∧ (h :: L).Nodup ∧ (∀ x ∈ h :: L, U x) ∧ ∀ x ∈ L, Way A x h := by
    intro k
    induction k with
    | zero => exact ⟨a0, [], rfl, by simp, by simpa using h0, by simp⟩
    | succ k ih =>
      obtain ⟨h, L, hl, hn, hu, hw⟩ := ih
      obtain ⟨b, hb, hab⟩ := hs h (hu h (by simp))
      have hwb : ∀ x ∈ h :: L, Way A x b := fun x hx => by
        rcases List.mem_cons.1 hx with e | e
        · rw [e]; exact .one hab
        · exact .more (hw x e) hab
      refine ⟨b, h :: L, by simp [hl], ?_, fun x hx => ?_, hwb⟩
      · rw [List.nodup_cons]
        exact ⟨fun e => hno b (hU b hb) (hwb b e), hn⟩
      · rcases List.mem_cons.1 hx with e | e
        · rw [e]; exact hb
        · exact hu x e
  obtain ⟨h, L, hl, hn, hu, -⟩ := grow n
  have : (h :: L).length ≤ (List.range n).length := hn.length_le_of_subset fun y hy => List.mem_range.2 (hU y (hu y hy))
  rw [List.length_range, List.length_cons] at this
  omega
theorem Od.stuck (_h : Od n A q) (hA : ∀ a b, A a b = true → b < n) (hl : q.length < n) (hf : FrR n A (inq q) none) : ∃ x, x < n ∧ Way A x x := by
  have : ∃ a, a < n ∧ a ∉ q := by
    apply Classical.byContradiction
    intro hno
    have : (List.range n).length ≤ q.length := List.nodup_range.length_le_of_subset fun y hy => by
      apply Classical.byContradiction
      intro hy2
      exact hno ⟨y, List.mem_range.1 hy, hy2⟩
    rw [List.length_range] at this
    omega
  obtain ⟨a, ha, hq⟩ := this
  refine circle (U := fun a => a < n ∧ a ∉ q) (fun a h => h.1) (fun a h => ?_) ⟨ha, hq⟩
  apply Classical.byContradiction
  intro hno
  refine hf a h.1 ⟨by simp [inq, h.2], fun b hb => ?_⟩
  apply Classical.byContradiction
  intro hb2
  exact hno ⟨b, ⟨hA a b hb, fun e => hb2 (by simp [inq, e])⟩, hb⟩
end Go.Proofs.YtbhihmkgimdjpaaDoor
