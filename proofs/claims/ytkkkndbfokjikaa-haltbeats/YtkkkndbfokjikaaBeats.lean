/- What is proved: HaltBeats returns true whatever its argument, and leaves all that was there as it was; no condition. -/
import Derived.Test.YtkkkndbfokjikaaOneT
namespace Go.Proofs.Ytkkkndbfokjikaa.haltBeats
open Go.RowKit Go.Conc

set_option maxRecDepth 100000 in
set_option maxHeartbeats 800000 in
theorem walk_out (a0 : Int) (w : World) (h : a0 < 0 ∨ 2000 < a0) :
    Calls Try.prog 4 #[.int .i64 a0] w fun e w' => e = .returned (.bool true) ∧ Below w.heap.size w w' := by
  have hnot : ∀ (x : Bool) (w : World), (Op.unary .not (.bool x)).run Try.prog w = .ok (.bool (!x)) w := fun _ _ => rfl
  have tests : (decide (a0 < 0) = false ∧ decide (2000 < a0) = true) ∨ decide (a0 < 0) = true := by simp only [decide_eq_false_iff_not, decide_eq_true_eq]; omega
  clear h
  rcases tests with ⟨t1, t2⟩ | t1
  all_goals
    go_enter Try.func4, Try.ntmps4
    go_wp2_with fail
    refine (anchor_true w).mono ?_
    rintro e w1 ⟨rfl, s1⟩
    go_wp2_with fail
    go_ret
    exact ⟨rfl, s1.below (Nat.le_refl _) fun _ h => h.elim⟩

set_option maxRecDepth 100000 in
set_option maxHeartbeats 1600000 in
theorem walk_in (n : Nat) (w : World) (hn : n ≤ 2000) :
    Calls Try.prog 4 #[.int .i64 n] w fun e w' => e = .returned (.bool true) ∧ Below w.heap.size w w' := by
  have hnot : ∀ (x : Bool) (w : World), (Op.unary .not (.bool x)).run Try.prog w = .ok (.bool (!x)) w := fun _ _ => rfl
  have t1 : decide ((n : Int) < 0) = false := by simp only [decide_eq_false_iff_not]; omega
  have t2 : decide (2000 < (n : Int)) = false := by simp only [decide_eq_false_iff_not]; omega
  go_enter Try.func4, Try.ntmps4
  go_wp2_with fail
  refine (anchor_true w).mono ?_
  rintro e w1 ⟨rfl, s1⟩
  go_wp2_with fail
  refine (one_new w1 n (by omega) (by omega)).mono ?_
  rintro e w2 ⟨rfl, h2, b2⟩
  have B2 : Hid (Below w.heap.size w w2) := (s1.below (Nat.le_refl _) fun _ h => h.elim).trans (b2.mono s1.size)
  have S1 : Hid (w.heap.size ≤ w1.heap.size) := s1.size
  clear b2 s1
  go_wp2_with fail
  go_loopw [5] (fun q wx => ∃ k : Nat, k ≤ n ∧ q = .int .i64 k ∧ One (w1.heap.size + 2) w1.heap.size wx (n - k) 0 ∧ Below w.heap.size w wx) (fun q _ => n - (intOf q).toNat)
  case atStart => exact ⟨0, Nat.zero_le _, rfl, by simpa using h2, B2.out⟩
  case round =>
    obtain ⟨k, hk, rfl, hh, bb⟩ := hrel
    by_cases hlt : k < n
    · go_wp2_with fail
      refine (one_left _ _ _ _ _ hh).mono ?_
      rintro e w3 ⟨rfl, h3, b3⟩
      go_wp2_with fail
      refine (one_stopped _ _ _ _ _ false rfl h3).mono ?_
      rintro e w4 ⟨rfl, h4, b4⟩
      go_wp2_with fail
      refine (one_take _ _ _ _ (by omega) (by omega) h4).mono ?_
      rintro e w5 ⟨rfl, h5, b5⟩
      have H5 : Hid (One (w1.heap.size + 2) w1.heap.size w5 (n - (k + 1 : Nat)) 0) := by
        have e1 : ((n : Int) - (k + 1 : Nat)) = (n : Int) - k - 1 := by omega
        show One _ _ _ _ _
        rw [e1]; exact h5
      have BB : Hid (Below w.heap.size w w5) := ((bb.trans (b3.mono S1.out)).trans (b4.mono S1.out)).trans (b5.mono S1.out)
      clear h3 h4 h5 b3 b4 b5
      go_wp2_with fail
      go_roundw
      case rel => exact ⟨k + 1, by omega, by go_num, H5.out, BB.out⟩
      case measure => simp [intOf]; omega
    · have hkn : k = n := by omega
      subst hkn
      have hh0 : One (w1.heap.size + 2) w1.heap.size wr 0 0 := by simpa using hh
      clear hh
      go_wp2_with fail
      refine (one_stopped _ _ _ _ _ false rfl hh0).mono ?_
      rintro e w3 ⟨rfl, h3, b3⟩
      go_wp2_with fail
      refine (one_spent _ _ _ h3).mono ?_
      rintro e w4 ⟨rfl, h4, b4⟩
      go_wp2_with fail
      refine (one_beat_dead _ _ _ _ _ (by decide) h4).mono ?_
      rintro e w5 ⟨rfl, h5, b5⟩
      go_wp2_with fail
      refine (one_stopped _ _ _ _ _ true rfl h5).mono ?_
      rintro e w6 ⟨rfl, h6, b6⟩
      go_wp2_with fail
      refine (one_cause _ _ _ _ _ h6).mono ?_
      rintro e w7 ⟨rfl, h7, b7⟩
      go_wp2_with fail
      refine (one_left _ _ _ _ _ h7).mono ?_
      rintro e w8 ⟨rfl, h8, b8⟩
      go_wp2_with fail
      refine (one_cancel_dead _ _ _ _ _ (by decide) h8).mono ?_
      rintro e w9 ⟨rfl, h9, b9⟩
      go_wp2_with fail
      refine (one_cause _ _ _ _ _ h9).mono ?_
      rintro e w10 ⟨rfl, h10, b10⟩
      go_wp2_with fail
      go_ret
      have d := S1.out
      exact ⟨rfl, (((((((bb.trans (b3.mono d)).trans (b4.mono d)).trans (b5.mono d)).trans (b6.mono d)).trans (b7.mono d)).trans (b8.mono d)).trans (b9.mono d)).trans (b10.mono d)⟩

theorem walk (a0 : Int) (w : World) :
    Calls Try.prog 4 #[.int .i64 a0] w fun e w' => e = .returned (.bool true) ∧ Below w.heap.size w w' := by
  by_cases h : 0 ≤ a0 ∧ a0 ≤ 2000
  · obtain ⟨n, rfl⟩ := Int.eq_ofNat_of_zero_le h.1
    exact walk_in n w (by omega)
  · exact walk_out a0 w (by omega)
end Go.Proofs.Ytkkkndbfokjikaa.haltBeats
