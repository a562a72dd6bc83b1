/- What is proved: Passes of a sort and the document's Passes answer the least power of the fan that is not below the runs; the law ExtsortPasses answers true, whatever its arguments. -/
import Derived.Test.YtaidooekdldidaaGPasM
import Derived.KernelRfl
import Derived.WalkKit
import Derived.Laws.NewBlocks
namespace Go.Proofs.Ytaidooekdldidaa
open Go.RowKit

theorem wrapI {z : Int} (h1 : -9223372036854775808 ≤ z) (h2 : z < 9223372036854775808) : IntKind.i64.wrap z = z := by rw [IntKind.wrap_i64]; omega
set_option maxRecDepth 100000 in
theorem rightFan_any (f : Int) (w : World) : Calls Try.prog 6 #[.int .i64 f] w fun e w' => e = .returned (.bool (decide (2 ≤ f ∧ f ≤ 64))) ∧ w' = w := by
  by_cases h1 : 2 ≤ f
  · have d1 : decide (2 ≤ f) = true := decide_eq_true h1
    by_cases h2 : f ≤ 64
    · have d2 : decide (f ≤ 64) = true := decide_eq_true h2
      have e : decide (2 ≤ f ∧ f ≤ 64) = true := decide_eq_true ⟨h1, h2⟩
      rw [e]
      go_enter Try.func6, Try.ntmps6
      go_wp2_with fail
      go_ret
      exact ⟨by first | exact rfl | (congr 1; simp [*]), rfl⟩
    · have d2 : decide (f ≤ 64) = false := decide_eq_false h2
      have e : decide (2 ≤ f ∧ f ≤ 64) = false := decide_eq_false fun h => h2 h.2
      rw [e]
      go_enter Try.func6, Try.ntmps6
      go_wp2_with fail
      go_ret
      exact ⟨by first | exact rfl | (congr 1; simp [*]), rfl⟩
  · have d1 : decide (2 ≤ f) = false := decide_eq_false h1
    have e : decide (2 ≤ f ∧ f ≤ 64) = false := decide_eq_false fun h => h1 h.1
    rw [e]
    go_enter Try.func6, Try.ntmps6
    go_wp2_with fail
    go_ret
    exact ⟨by first | exact rfl | (congr 1; simp [*]), rfl⟩
set_option maxRecDepth 100000 in
theorem groups_any {f r : Nat} (hf : 2 ≤ f) (hr : 1 ≤ r) (hr2 : r < 9223372036854775808) (w : World) : Calls Try.prog 7 #[.int .i64 (r : Int), .int .i64 (f : Int)] w fun e w' => e = .returned (.int .i64 (up f r : Nat)) ∧ w' = w := by
  have hu := up_of (f := f) hr
  have hlt : up f r ≤ r := by
    by_cases h : 2 ≤ r
    · exact Nat.le_of_lt (up_lt hf h)
    · obtain rfl : r = 1 := by omega
      unfold up
      simp
  have w1 : IntKind.i64.wrap ((r : Int) - 1) = (r : Int) - 1 := wrapI (by omega) (by omega)
  have hq : IntKind.i64.wrap ((up f r : Int) - 1) = (up f r : Int) - 1 := wrapI (by omega) (by omega)
  have hq' : Int.tdiv ((r : Int) - 1) (f : Int) = (up f r : Int) - 1 := by omega
  have w2 : IntKind.i64.wrap (up f r : Int) = (up f r : Int) := wrapI (by omega) (by omega)
  have hne : (f : Int) ≠ 0 := by omega
  generalize up f r = u at *
  clear hu hlt hr hr2 hf
  go_enter Try.func7, Try.ntmps7
  go_wp2_with fail
  go_ret
  exact ⟨rfl, rfl⟩
set_option maxRecDepth 100000 in
theorem passes_no {f : Int} (hf : ¬ (2 ≤ f ∧ f ≤ 64)) (r : Int) (w : World) : Calls Try.prog 4 #[.int .i64 r, .int .i64 f] w fun e w' => e = .returned (.int .i64 0) ∧ w' = w := by
  have HF : Hid (∀ W, _) := rightFan_any f
  rw [decide_eq_false hf] at HF
  clear hf
  go_enter Try.func4, Try.ntmps4
  go_wp2_with fail
  refine Calls.mono (HF.out _) ?_
  rintro e w1 ⟨rfl, rfl⟩
  go_wp2_with fail
  go_ret
  exact ⟨rfl, rfl⟩
set_option maxRecDepth 100000 in
theorem passes_neg {f : Int} (hf : 2 ≤ f ∧ f ≤ 64) {r : Int} (hr : r < 2) (w : World) : Calls Try.prog 4 #[.int .i64 r, .int .i64 f] w fun e w' => e = .returned (.int .i64 0) ∧ w' = w := by
  have HF : Hid (∀ W, _) := rightFan_any f
  rw [decide_eq_true hf] at HF
  have d1 : decide (1 < r) = false := decide_eq_false (by omega)
  clear hf hr
  go_enter Try.func4, Try.ntmps4
  go_wp2_with fail
  refine Calls.mono (HF.out _) ?_
  rintro e w1 ⟨rfl, rfl⟩
  go_wp2_with fail
  go_loopw [0, 5] (fun s i wr => s = .int .i64 r ∧ i = .int .i64 0 ∧ wr = w1) (fun _ _ _ => 0)
  case atStart => exact ⟨rfl, rfl, rfl⟩
  case round =>
    obtain ⟨rfl, rfl, rfl⟩ := hrel
    go_wp2_with fail
    go_ret
    exact ⟨rfl, rfl⟩
set_option maxRecDepth 100000 in
theorem passes_any {f : Nat} (hf : 2 ≤ f) (hf2 : f ≤ 64) {r : Nat} (hr : 1 ≤ r) (hr2 : r < 9223372036854775808) (w : World) : Calls Try.prog 4 #[.int .i64 (r : Int), .int .i64 (f : Int)] w fun e w' => ∃ n, e = .returned (.int .i64 (n : Nat)) ∧ lst f r n ∧ w' = w := by
  have HF : Hid (∀ W, _) := rightFan_any f
  rw [decide_eq_true (show (2 : Int) ≤ (f : Int) ∧ (f : Int) ≤ 64 by omega)] at HF
  have HG : Hid (∀ x : Nat, 1 ≤ x → x < 9223372036854775808 → ∀ W, _) := fun x h1 h2 W => groups_any hf (r := x) h1 h2 W
  have HL : Hid _ := (⟨hf, hr, hr2⟩ : _ ∧ _ ∧ _)
  clear hf hf2 hr hr2
  go_enter Try.func4, Try.ntmps4
  go_wp2_with fail
  refine Calls.mono (HF.out _) ?_
  rintro e w1 ⟨rfl, rfl⟩
  clear HF
  go_wp2_with fail
  go_loopw [0, 5] (fun s i wr => ∃ n : Nat, s = .int .i64 ((ups f r n : Nat) : Int) ∧ i = .int .i64 (n : Int) ∧ (∀ j, j < n → 2 ≤ ups f r j) ∧ wr = w1) (fun s _ _ => (intOf s).toNat)
  case atStart => exact ⟨0, rfl, rfl, fun j h => absurd h (Nat.not_lt_zero j), rfl⟩
  case round =>
    obtain ⟨n, rfl, rfl, hj, rfl⟩ := hrel
    have hp := ups_pos (f := f) HL.out.2.1 n
    have hle : ∀ m, ups f r m ≤ r := fun m => by
      induction m with
      | zero => exact Nat.le_refl _
      | succ m ih =>
        show up f (ups f r m) ≤ r
        by_cases h : 2 ≤ ups f r m
        · have := up_lt HL.out.1 h
          omega
        · have : (ups f r m - 1) / f = 0 := by
            rw [show ups f r m - 1 = 0 by omega]
            exact Nat.zero_div _
          unfold up
          have := HL.out.2.1
          omega
    by_cases hlt : 2 ≤ ups f r n
    · have d1 : decide ((1 : Int) < ((ups f r n : Nat) : Int)) = true := decide_eq_true (by omega)
      have HG1 : Hid (∀ W, _) := HG.out (ups f r n) hp (by have := hle n; have := HL.out.2.2; omega)
      have hl := up_lt HL.out.1 hlt
      have HJ : Hid (∀ j, j < n + 1 → 2 ≤ ups f r j) := fun j h => by
        by_cases e : j = n
        · subst e; exact hlt
        · exact hj j (by omega)
      have hn : n ≤ 63 := by
        have h1 : lst f r n ∨ True := .inr trivial
        refine Nat.le_of_not_lt fun h2 => ?_
        have h3 := hj 63 h2
        have h4 : ¬ r ≤ f ^ (0 + 63) := fun h => by
          have := (ups_le (f := f) (by have := HL.out.1; omega) HL.out.2.1 63 0).2 h
          simp only [Nat.pow_zero] at this
          omega
        have h5 : 2 ^ 63 ≤ f ^ 63 := Nat.pow_le_pow_left HL.out.1 63
        have h6 : (2 : Nat) ^ 63 = 9223372036854775808 := by decide
        have := HL.out.2.2
        rw [Nat.zero_add] at h4
        omega
      have hw : IntKind.i64.wrap ((n : Int) + 1) = (n : Int) + 1 := wrapI (by omega) (by omega)
      clear hj hle hp hlt
      have EU : Hid (ups f r (n + 1) = up f (ups f r n)) := rfl
      generalize ups f r n = u at *
      go_wp2_with fail
      refine Calls.mono (HG1.out _) ?_
      rintro e w2 ⟨rfl, rfl⟩
      go_wp2_with fail
      go_roundw
      case rel => exact ⟨n + 1, by rw [EU.out], by rw [Int.natCast_add]; rfl, HJ.out, by first | trivial | rfl⟩
      case measure => simp only [intOf]; omega
    · have d1 : decide ((1 : Int) < ((ups f r n : Nat) : Int)) = false := decide_eq_false (by omega)
      have HR : Hid (lst f r n) := ups_lst (by have := HL.out.1; omega) HL.out.2.1 (by omega) hj
      clear hj hle hp hlt
      generalize ups f r n = u at *
      go_wp2_with fail
      go_ret
      exact ⟨n, rfl, HR.out, rfl⟩
set_option maxRecDepth 100000 in
theorem rpasses_any {f : Nat} (hf : 2 ≤ f) (hf2 : f ≤ 64) {r : Nat} (hr2 : r < 9223372036854775808) (w : World) : Calls Try.prog 5 #[.int .i64 (r : Int), .int .i64 (f : Int)] w fun e w' => ∃ n, e = .returned (.int .i64 (n : Nat)) ∧ lst f r n ∧ w' = w := by
  have d1 : decide ((f : Int) < 2) = false := decide_eq_false (by omega)
  have d2 : decide ((64 : Int) < (f : Int)) = false := decide_eq_false (by omega)
  have HL : Hid _ := (⟨hf, hr2⟩ : _ ∧ _)
  have hne : (f : Int) ≠ 0 := by omega
  obtain ⟨q, eq⟩ : ∃ q, q = r / f := ⟨_, rfl⟩
  have hq : Int.tdiv (r : Int) (f : Int) = (q : Int) := by rw [eq]; rfl
  have hqw : IntKind.i64.wrap (q : Int) = (q : Int) := by
    have : q ≤ r := by rw [eq]; exact Nat.div_le_self ..
    exact wrapI (by omega) (by omega)
  have EQ : Hid _ := eq
  clear hf hf2 hr2 eq
  go_enter Try.func5, Try.ntmps5
  go_wp2_with fail
  go_loopw [5, 6] (fun i s wr => ∃ n : Nat, i = .int .i64 (n : Int) ∧ s = .int .i64 ((f ^ n : Nat) : Int) ∧ (∀ j, j < n → f ^ j < r) ∧ (f ^ n ≤ r ∨ n = 0) ∧ wr = w) (fun _ s _ => r - (intOf s).toNat)
  case atStart => exact ⟨0, rfl, by simp, fun j h => absurd h (Nat.not_lt_zero j), .inr rfl, rfl⟩
  case round =>
    obtain ⟨n, rfl, rfl, hj, hle, rfl⟩ := hrel
    have hpos : 0 < f ^ n := Nat.pow_pos (by have := HL.out.1; omega)
    by_cases hlt : f ^ n < r
    · have e1 : decide (((f ^ n : Nat) : Int) < (r : Int)) = true := decide_eq_true (by omega)
      have HJ : Hid (∀ j, j < n + 1 → f ^ j < r) := fun j h => by
        by_cases e : j = n
        · subst e; exact hlt
        · exact hj j (by omega)
      have hn : n ≤ 63 := by
        refine Nat.le_of_not_lt fun h2 => ?_
        have h3 := hj 63 h2
        have h5 : 2 ^ 63 ≤ f ^ 63 := Nat.pow_le_pow_left HL.out.1 63
        have h6 : (2 : Nat) ^ 63 = 9223372036854775808 := by decide
        have := HL.out.2
        omega
      have hw : IntKind.i64.wrap ((n : Int) + 1) = (n : Int) + 1 := wrapI (by omega) (by omega)
      have hmul : f ^ (n + 1) = f ^ n * f := Nat.pow_succ ..
      by_cases hq2 : q < f ^ n
      · have e2 : decide ((q : Int) < ((f ^ n : Nat) : Int)) = true := decide_eq_true (by omega)
        have HR : Hid (lst f r (n + 1)) := by
          refine ⟨?_, HJ.out⟩
          rw [hmul]
          have hq4 := hq2
          rw [EQ.out] at hq4
          exact Nat.le_of_lt ((Nat.div_lt_iff_lt_mul (by have := HL.out.1; omega)).1 hq4)
        clear hj hle hpos hmul HJ hn
        clear EQ
        generalize f ^ n = p at *
        go_wp2_with fail
        go_ret
        exact ⟨n + 1, by rw [Int.natCast_add]; rfl, HR.out, rfl⟩
      · have e2 : decide ((q : Int) < ((f ^ n : Nat) : Int)) = false := decide_eq_false (by omega)
        have hle2 : f ^ (n + 1) ≤ r := by
          rw [hmul]
          have hq4 := hq2
          rw [EQ.out] at hq4
          exact (Nat.le_div_iff_mul_le (by have := HL.out.1; omega)).1 (Nat.le_of_not_lt hq4)
        have hm2 : (((f ^ n : Nat) : Int) * (f : Int)) = ((f ^ (n + 1) : Nat) : Int) := by rw [hmul]; rfl
        have hw2 : IntKind.i64.wrap (((f ^ n : Nat) : Int) * (f : Int)) = ((f ^ (n + 1) : Nat) : Int) := by rw [hm2]; exact wrapI (by omega) (by have := HL.out.2; omega)
        have hgrow : f ^ n < f ^ (n + 1) := by
          rw [hmul]
          have : f ^ n * 2 ≤ f ^ n * f := Nat.mul_le_mul_left _ HL.out.1
          omega
        have HL2 : Hid _ := hle2
        clear hj hle hpos hmul EQ hn
        generalize f ^ n = p at *
        have EP : Hid (∃ p2, p2 = f ^ (n + 1)) := ⟨_, rfl⟩
        obtain ⟨p2, ep⟩ := EP.out
        rw [← ep] at hw2 hgrow hle2
        clear hm2
        have E2 : Hid _ := ep
        clear ep EP
        go_wp2_with fail
        go_roundw
        case rel => exact ⟨n + 1, by rw [Int.natCast_add]; rfl, by rw [E2.out], HJ.out, .inl HL2.out, by first | trivial | rfl⟩
        case measure => simp only [intOf]; omega
    · have e1 : decide (((f ^ n : Nat) : Int) < (r : Int)) = false := decide_eq_false (by omega)
      have HR : Hid (lst f r n) := ⟨by omega, hj⟩
      clear hj hle hpos
      generalize f ^ n = p at *
      go_wp2_with fail
      go_ret
      exact ⟨n, rfl, HR.out, rfl⟩
end Go.Proofs.Ytaidooekdldidaa
