/- What is proved: plain facts for ExtentMemory: the holes at the even blocks; rows that are stored into; no condition. -/
import Derived.Test.YtfllilgadphlcaaEHolesL
import Derived.Test.YtfllilgadphlcaaECnt
namespace Go.Proofs.Ytfllilgadphlcaa
open Go.RowKit

/-- k holes of one block each, at lo, lo + 2, .. -/
def evs (lo : Int) : Nat → List Ex
  | 0 => []
  | k + 1 => ⟨lo, 1⟩ :: evs (lo + 2) k
theorem length_evs (lo : Int) (k : Nat) : (evs lo k).length = k := by
  induction k generalizing lo with
  | zero => rfl
  | succ k ih => simp [evs, ih]
theorem wf_evs {lo N : Int} {k : Nat} (h : lo + 2 * k - 1 ≤ N) : WF lo N (evs lo k) := by
  induction k generalizing lo with
  | zero => trivial
  | succ k ih => exact ⟨Int.le_refl _, Int.le_refl _, by show lo + 1 ≤ N; omega, (ih (by omega)).mono (by show lo + 1 + 1 ≤ lo + 2; omega)⟩
theorem mm_evs (b lo : Int) (k : Nat) : Mm b (evs lo k) ↔ ∃ i : Nat, i < k ∧ b = lo + 2 * i := by
  induction k generalizing lo with
  | zero => exact ⟨fun h => absurd h (mm_nil b), fun ⟨i, h, _⟩ => by omega⟩
  | succ k ih =>
    rw [evs, mm_cons, ih]
    constructor
    · rintro (h | ⟨i, h1, h2⟩)
      · have h : lo ≤ b ∧ b < lo + 1 := h
        exact ⟨0, by omega, by omega⟩
      · exact ⟨i + 1, by omega, by omega⟩
    · rintro ⟨i, h1, h2⟩
      cases i with
      | zero => exact .inl ⟨by show lo ≤ b; omega, by show b < lo + 1; omega⟩
      | succ i => exact .inr ⟨i, by omega, by omega⟩
theorem evs_get {lo : Int} {k i : Nat} (h : i < k) : (evs lo k)[i]? = some ⟨lo + 2 * i, 1⟩ := by
  induction k generalizing lo i with
  | zero => omega
  | succ k ih =>
    cases i with
    | zero => simp [evs]
    | succ i =>
      rw [evs, List.getElem?_cons_succ, ih (by omega)]
      congr 2
      omega
theorem Row.set {w : World} {g c : Nat} {L : List Ex} (h : Row w g c L) {i : Nat} (hi : i < L.length) (x : Ex) : Row ((w.setCell ⟨g, i * 2, none⟩ (.int .i64 x.f)).setCell ⟨g, i * 2 + 1, none⟩ (.int .i64 x.c)) g c (L.set i x) := by
  obtain ⟨A, h1, h2, h3, h4⟩ := h
  refine ⟨(A.set (i * 2) (.int .i64 x.f)).set (i * 2 + 1) (.int .i64 x.c), ?_, by simp [h2], by simpa using h3, fun k hk => ?_⟩
  · unfold Blk at *
    refine (setCell_at (setCell_at h1 _ _) _ _).trans ?_
    congr 2
    apply Array.ext'
    simp
  · rw [List.length_set] at hk
    obtain ⟨e, he⟩ : ∃ e, (L.set i x)[k / 2]? = some e := ⟨_, List.getElem?_eq_getElem (by rw [List.length_set]; omega)⟩
    obtain ⟨g0, g1⟩ := ecs_get he
    rw [List.getElem?_set] at he
    by_cases hki : k / 2 = i
    · rw [if_pos hki.symm, if_pos hi] at he
      cases he
      have hm : k % 2 = 0 ∨ k % 2 = 1 := by omega
      rcases hm with hm | hm
      · have ek : k = k / 2 * 2 := by omega
        rw [ek, g0, ← ek, List.getElem?_set, if_neg (by omega), List.getElem?_set, if_pos (by omega), if_pos (by omega)]
      · have ek : k = k / 2 * 2 + 1 := by omega
        rw [ek, g1, ← ek, List.getElem?_set, if_pos (by omega), List.length_set, if_pos (by omega)]
    · rw [if_neg (by omega)] at he
      obtain ⟨f0, f1⟩ := ecs_get he
      rw [List.getElem?_set, if_neg (by omega), List.getElem?_set, if_neg (by omega), h4 k (by omega)]
      have hm : k % 2 = 0 ∨ k % 2 = 1 := by omega
      rcases hm with hm | hm
      · have ek : k = k / 2 * 2 := by omega
        rw [ek, g0, f0]
      · have ek : k = k / 2 * 2 + 1 := by omega
        rw [ek, g1, f1]
theorem SpX.stay {X S : Nat → Prop} {w w' : World} {p N : Nat} {L : List Ex} (h : SpX X w p N L) (k : Same S w w') (hS : ∀ k, k < w.heap.size → S k → X k) : SpX X w' p N L := by
  obtain ⟨a, hb, c, h, h1, h2⟩ := h
  exact ⟨a, hb, c, h.kept k (fun e => h2 (hS _ h.lt e)) (fun e => h1 (hS _ h.ltb e)), h1, h2⟩
/-- The first j of A are marked with v. -/
def Marked (v : Int) (j : Nat) (A : List Ex) : Prop := ∀ i, i < j → ∃ e, A[i]? = some e ∧ e.f = v
theorem Marked.next {v : Int} {j : Nat} {A : List Ex} (h : Marked v j A) (hj : j < A.length) (c : Int) : Marked v (j + 1) (A.set j ⟨v, c⟩) := fun i hi => by
  rw [List.getElem?_set]
  by_cases e : j = i
  · rw [if_pos e, if_pos hj]
    exact ⟨_, rfl, rfl⟩
  · rw [if_neg e]
    exact h i (by omega)
end Go.Proofs.Ytfllilgadphlcaa
