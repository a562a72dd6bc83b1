/- when a list is sorted, an outcome right; the document's Valid of any kind but 9; condition: the list's length -/
import Derived.Test.YtfhaiklfbnfdlabDoorRoG
namespace Go.Proofs.YtfhaiklfbnfdlabDoor
open Go.RowKit

theorem dn_iff (l : List Vi.Vl) : ∀ k, k < l.length → (Vi.dn l k = true ↔ ∀ i x y, i < k → l[i + 1]? = some x → l[i]? = some y → Vi.ltV x y = false)
  | 0, _ => by simp [Vi.dn]
  | k + 1, hk => by
    have ih := dn_iff l k (by omega)
    unfold Vi.dn
    rw [Bool.and_eq_true, ih]
    have e1 : l.getD (k + 1) default = l[k + 1] := by rw [List.getD_eq_getElem?_getD, List.getElem?_eq_getElem hk]; rfl
    have e2 : l.getD k default = l[k] := by rw [List.getD_eq_getElem?_getD, List.getElem?_eq_getElem (by omega)]; rfl
    rw [e1, e2]
    constructor
    · rintro ⟨h1, h2⟩ i x y hi hx hy
      by_cases hik : i < k
      · exact h2 i x y hik hx hy
      · obtain rfl : i = k := by omega
        rw [List.getElem?_eq_getElem hk] at hx
        rw [List.getElem?_eq_getElem (by omega)] at hy
        cases hx
        cases hy
        simpa using h1
    · intro h
      refine ⟨?_, fun i x y hi hx hy => h i x y (by omega) hx hy⟩
      have := h k _ _ (by omega) (List.getElem?_eq_getElem hk) (List.getElem?_eq_getElem (by omega))
      simpa using this
theorem srd_iff (l : List Vi.Vl) : Vi.srd l = true ↔ ∀ i x y, l[i + 1]? = some x → l[i]? = some y → Vi.ltV x y = false := by
  unfold Vi.srd
  by_cases h0 : l.length = 0
  · rw [List.eq_nil_of_length_eq_zero h0]
    simp [Vi.dn]
  · rw [dn_iff l _ (by omega)]
    constructor
    · intro h i x y hx hy
      exact h i x y (by have := (List.getElem?_eq_some_iff.1 hx).1; omega) hx hy
    · exact fun h i x y _ hx hy => h i x y hx hy
/-- The outcome's numbers are right. -/
def OkP (kd cd off tn tt : Int) (n : Nat) : Prop := (1 ≤ kd ∧ kd ≤ 9) ∧ (kd ≤ 3 → 1 ≤ cd ∧ cd ≤ 999) ∧ (3 < kd → cd = 0) ∧ (kd = 2 → 0 ≤ off ∧ off ≤ 4194304) ∧ (kd ≠ 2 → off = 0) ∧ (8 ≤ kd → 0 ≤ tn ∧ tn ≤ 4096) ∧ (kd < 8 → tn = 0) ∧ (kd = 9 → (1 ≤ tt ∧ tt ≤ 1099511627776) ∧ (n : Int) ≤ tt ∧ n ≤ 10000) ∧ (kd ≠ 9 → tt = 0 ∧ n = 0)
theorem okO_P (o : OuM) : okO o = true ↔ OkP o.kd o.cd o.of o.tn o.tt o.ls.length ∧ allV o.ls = true ∧ Vi.srd o.ls = true := by
  obtain ⟨kd, cd, off, tn, tt, ls⟩ := o
  unfold okO OkP
  dsimp only
  rw [Bool.and_eq_true, Bool.and_eq_true, Bool.and_eq_true, Bool.and_eq_true, Bool.and_eq_true, Bool.and_eq_true, Bool.and_eq_true, Vi.wi_iff]
  unfold fit hc ho ht hl
  constructor
  · rintro ⟨⟨⟨⟨⟨⟨h1, h2⟩, h3⟩, h4⟩, h5⟩, h6⟩, h7, h8⟩
    refine ⟨?_, h7, h8⟩
    have h6 := of_decide_eq_true h6
    have : kd = 1 ∨ kd = 2 ∨ kd = 3 ∨ kd = 4 ∨ kd = 5 ∨ kd = 6 ∨ kd = 7 ∨ kd = 8 ∨ kd = 9 := by omega
    rcases this with rfl | rfl | rfl | rfl | rfl | rfl | rfl | rfl | rfl <;> simp [Vi.wi] at h2 h3 h4 h5 <;> refine ⟨by omega, by omega, by omega, by omega, by omega, by omega, by omega, by omega, by omega⟩
  · rintro ⟨⟨h1, h2, h3, h4, h5, h6, h7, h8, h9⟩, h10, h11⟩
    have : kd = 1 ∨ kd = 2 ∨ kd = 3 ∨ kd = 4 ∨ kd = 5 ∨ kd = 6 ∨ kd = 7 ∨ kd = 8 ∨ kd = 9 := by omega
    rcases this with rfl | rfl | rfl | rfl | rfl | rfl | rfl | rfl | rfl <;> simp [Vi.wi] at h2 h3 h4 h5 h6 h7 h8 h9 ⊢ <;> simp_all <;> omega
end Go.Proofs.YtfhaiklfbnfdlabDoor

namespace Go.Proofs.YtfhaiklfbnfdlabDoor
open Go.RowKit

end Go.Proofs.YtfhaiklfbnfdlabDoor
