/- What is proved: High answers true where a tree of so many spans may have that height; no more spans than memory holds. -/
import Derived.Test.YtaiaahcblohknaaYAnch
namespace Go.Proofs.Ytaiaahcblohknaa
open Go.RowKit

theorem nmin_60 : nmin 60 = 4052739537880 := by decide +kernel
theorem nmin_pos {h : Nat} (hh : 1 ≤ h) : 1 ≤ nmin h := Nat.le_trans (show 1 ≤ nmin 1 by decide) (nmin_mono hh)
theorem High.le {n t : Nat} (h : High n t) (hn : n ≤ 3500000000000) : t < 60 := by
  rcases Nat.lt_or_ge t 60 with h9 | h9
  · exact h9
  · have := nmin_mono h9
    rw [nmin_60] at this
    have := h.1
    omega
theorem High.pos {n t : Nat} (h : High n t) (hn : 1 ≤ n) : 1 ≤ t := by
  rcases (by omega : t = 0 ∨ 1 ≤ t) with rfl | h9
  · have := h.2; simp at this; omega
  · exact h9
theorem nmin_succ {h : Nat} (hh : 1 ≤ h) : nmin (h + 1) = nmin h + nmin (h - 1) + 1 := by
  obtain ⟨m, rfl⟩ : ∃ m, h = m + 1 := ⟨h - 1, by omega⟩
  rfl
set_option maxRecDepth 100000 in
set_option maxHeartbeats 1600000 in
theorem high14 (n t : Nat) (h : High n t) (ht : t ≤ n) (hn : n ≤ 3500000000000) (w : World) :
    Calls Try.prog 23 #[.int .i64 n, .int .i64 t] w fun r w' => r = .returned (.bool true) ∧ w' = w := by
  by_cases h0 : n = 0
  · subst h0
    obtain rfl : t = 0 := by omega
    go_enter Try.func23, Try.ntmps23
    go_wp2_with fail
    go_ret
    exact ⟨rfl, rfl⟩
  · have h1 := h.pos (by omega)
    have h2 := h.le hn
    have h3 := h.1
    have h4 : (n : Int) < ((2 ^ t : Nat) : Int) := by have := h.2; omega
    have hp : (2 : Nat) ^ t ≤ 2 ^ 59 := Nat.pow_le_pow_right (by decide) (by omega)
    obtain ⟨P, hP⟩ : ∃ P, 2 ^ t = P := ⟨_, rfl⟩
    have d0 : ¬ ((n : Int) = 0) := by omega
    have d1 : ¬ ((t : Int) < 1) := by omega
    have d2 : ¬ ((60 : Int) < (t : Int)) := by omega
    rw [hP] at h4 hp
    have hw : wrap64 ((2 : Int) ^ t) = (P : Int) := by
      have e : (2 : Int) ^ t = ((2 ^ t : Nat) : Int) := by simp
      rw [e, hP]
      unfold wrap64
      omega
    have d3 : ¬ ((P : Int) ≤ (n : Int)) := by omega
    have d4 : decide ((P : Int) ≤ (n : Int)) = false := decide_eq_false d3
    have H3 : Hid _ := h3
    clear h hP hp h4 h3 ht
    go_enter Try.func23, Try.ntmps23
    go_wp2_with fail
    go_loop [5, 6, 7] (fun a b i => ∃ m : Nat, 1 ≤ m ∧ m ≤ t ∧ i = .int .i64 m ∧ a = .int .i64 (nmin (m - 1) : Nat) ∧ b = .int .i64 (nmin m : Nat)) (fun _ _ i => t - (intOf i).toNat)
    case atStart => exact ⟨1, Nat.le_refl _, h1, rfl, rfl, rfl⟩
    case round =>
      obtain ⟨m, m1, m2, rfl, rfl, rfl⟩ := hrel
      have H3' := H3.out
      have b1 := nmin_mono m2
      have b2 := nmin_mono (show m - 1 ≤ t by omega)
      have hs := nmin_succ m1
      by_cases hlt : m < t
      · have c1 : (m : Int) < (t : Int) := by omega
        have HS : Hid _ := hs
        have HM : Hid (m - 1 + 1 = m) := by show m - 1 + 1 = m; omega
        have b3 : nmin m < 4611686018427387904 := by omega
        have b4 : nmin (m - 1) < 4611686018427387904 := by omega
        clear hs H3' b1 b2
        obtain ⟨A, ea⟩ : ∃ A, nmin (m - 1) = A := ⟨_, rfl⟩
        obtain ⟨B, eb⟩ : ∃ B, nmin m = B := ⟨_, rfl⟩
        have EA : Hid _ := ea
        have EB : Hid _ := eb
        rw [ea] at b4 ⊢
        rw [eb] at b3 ⊢
        clear ea eb
        go_wp2_with fail
        go_round
        case rel => exact ⟨m + 1, by omega, hlt, by simp, by rw [Nat.add_sub_cancel, show nmin m = B from EB.out], by rw [show nmin (m + 1) = nmin m + nmin (m - 1) + 1 from HS.out, show nmin m = B from EB.out, show nmin (m - 1) = A from EA.out]; simp; omega⟩
        case measure => simp only [intOf]; omega
      · obtain rfl : m = t := by omega
        have c1 : ¬ ((m : Int) < (m : Int)) := by omega
        have c2 : ((nmin m : Nat) : Int) ≤ (n : Int) := by omega
        have c3 : decide (((nmin m : Nat) : Int) ≤ (n : Int)) = true := decide_eq_true c2
        clear hs b1 b2 H3'
        go_wp2_with fail
        go_ret
        exact ⟨rfl, rfl⟩
end Go.Proofs.Ytaiaahcblohknaa
