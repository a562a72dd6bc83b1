/- What is proved: slices.Delete of the first versions of a chain of one's own: its walk. -/
import Derived.Test.YtnjpbagfbklofaaCDel
namespace Go.Proofs.Ytnjpbagfbklofaa
open Go.RowKit

set_option maxRecDepth 100000 in
set_option maxHeartbeats 1600000 in
theorem delete13 {w : World} {g cap : Nat} {l : List Vn} (h : Rv4 w g cap l) {j : Nat} (hj0 : 0 < j) (hj : j < l.length) :
    Calls Try.prog 38 #[.slice (some ⟨g, 0, none⟩) l.length cap, .int .i64 0, .int .i64 j] w fun e w' => e = .returned (.slice (some ⟨g, 0, none⟩) (l.drop j).length cap) ∧ Rv4 w' g cap (l.drop j) ∧ Same (fun k => k = g) w w' := by
  have hle := h.le
  have hcm := h.cm
  have HA : Hid (∀ W, Kept w W → ∀ ty, _) := fun W k ty => del_app (h.on k) hj ty
  have HC : Hid (∀ W, Rv4 W g cap (l.drop j) → ∀ ty, _) := fun W hW ty => del_clr (j := j) (c := cap - (l.length - j)) hW (by rw [List.length_drop]; omega) hj0 ty
  simp only [List.length_drop] at HC ⊢
  obtain ⟨n, en⟩ : ∃ n, n = l.length := ⟨_, rfl⟩
  rw [← en] at HA HC hle hj ⊢
  obtain ⟨q, eq⟩ : ∃ q, q = n - j := ⟨_, rfl⟩
  rw [← eq] at HA HC ⊢
  have hnj : n - q = j := by omega
  have hnj2 : n - j = q := by omega
  have hnq : q ≤ n := by omega
  have hq0 : 0 < q := by omega
  have i1 : (j : Int) ≤ (n : Int) := by omega
  have i2 : (0 : Int) ≤ (j : Int) := by omega
  have i3 : (n : Int) ≤ (cap : Int) := by omega
  have i4 : ¬ ((0 : Int) = (j : Int)) := by omega
  have i5 : ((0 : Int) == (j : Int)) = false := by simp; omega
  have i6 : (q : Int) ≤ (n : Int) := by omega
  have i7 : ¬ cap = j := by omega
  have i8 : ¬ cap = q := by omega
  have i9 : ¬ j = 0 := by omega
  have i10 : ¬ 0 = j := by omega
  have i11 : (j : Int) ≤ (cap : Int) := by omega
  have i12 : (q : Int) ≤ (cap : Int) := by omega
  have EN : Hid _ := en
  have EQ : Hid _ := eq
  have hcm2 : (cap : Int) ≤ 9223372036854775807 := by unfold maxLen at hcm; omega
  clear h en eq hj hj0 hle hcm
  go_enter Try.func38, Try.ntmps38
  go_wp2_with fail
  go_region_law ((refine step_app rfl (.tmp 22) (.tmp 25) 41 rfl (.slice (some ⟨g, 0, none⟩) 0 cap) (.slice (some ⟨g, j * 4, none⟩) q (cap - j)) (by simp [Act.eval, Act.put]) (by simp [Act.eval, Act.put]) _ (HA.out _ (by (repeat (first | exact Same.refl _ _ | apply Same.drew | apply Same.drewN)); done)) ?_); rintro v4 w4 ⟨rfl, r4, s4⟩)
  all_goals
    have S4 : Hid _ := s4
    obtain ⟨w5, hcl, r5, s5⟩ := HC.out _ r4 0
    have R5 : Hid _ := r5
    have S5 : Hid _ := s5
    clear r4 r5 s4 s5
    go_wp2_with fail
    go_ret
    exact ⟨rfl, R5.out, Same.trans' (Same.trans' (by (repeat (first | exact Same.refl _ _ | apply Same.drew | apply Same.drewN)); done) S4.out) S5.out⟩
end Go.Proofs.Ytnjpbagfbklofaa
