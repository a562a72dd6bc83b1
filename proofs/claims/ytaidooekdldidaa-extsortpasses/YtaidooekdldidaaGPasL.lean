/- What is proved: the law ExtsortPasses answers true and leaves all that was there as it was, whatever its arguments. -/
import Derived.Test.YtaidooekdldidaaGPas
namespace Go.Proofs.Ytaidooekdldidaa
open Go.RowKit

theorem lst_65 : lst 8 65 3 := by
  refine ⟨by decide, fun q hq => ?_⟩
  rcases q with _ | _ | _ | q
  · decide
  · decide
  · decide
  · omega
set_option maxRecDepth 100000 in
set_option maxHeartbeats 1000000 in
theorem passes_law (r f : Int) (w : World) (hw0 : r < 9223372036854775808) : Calls Try.prog 3 #[.int .i64 r, .int .i64 f] w fun e w' => e = .returned (.bool true) ∧ w' = w := by
  have HA : Hid (∀ W, Calls Try.prog 4 #[.int .i64 65, .int .i64 8] W fun e w' => e = .returned (.int .i64 3) ∧ w' = W) := fun W =>
    Calls.mono (passes_any (f := 8) (by decide) (by decide) (r := 65) (by decide) (by decide) W) fun _ _ ⟨n, h1, h2, h3⟩ => by
      obtain rfl := lst_det h2 lst_65
      exact ⟨h1, h3⟩
  by_cases hf : 2 ≤ f ∧ f ≤ 64
  · by_cases hr : r < 2
    · have HP : Hid (∀ W, _) := fun W => passes_neg hf hr W
      obtain ⟨f1, f2⟩ := hf
      have d1 : decide (f < 2) = false := decide_eq_false (by omega)
      have d2 : decide (64 < f) = false := decide_eq_false (by omega)
      have d3 : decide (r < 2) = true := decide_eq_true hr
      clear hw0
      go_enter Try.func3, Try.ntmps3
      go_wp2_with fail
      refine Calls.mono (HA.out _) ?_
      rintro e w1 ⟨rfl, rfl⟩
      go_wp2_with fail
      refine Calls.mono (HP.out _) ?_
      rintro e w1 ⟨rfl, rfl⟩
      go_wp2_with fail
      go_ret
      exact ⟨rfl, rfl⟩
    · obtain ⟨m, rfl⟩ : ∃ m : Nat, r = (m : Int) := ⟨r.toNat, by omega⟩
      obtain ⟨g, rfl⟩ : ∃ g : Nat, f = (g : Int) := ⟨f.toNat, by omega⟩
      have hg1 : 2 ≤ g := by omega
      have hg2 : g ≤ 64 := by omega
      have hm1 : 2 ≤ m := by omega
      have hm2 : m < 9223372036854775808 := by omega
      have HP : Hid (∀ W, _) := fun W => passes_any hg1 hg2 (r := m) (by omega) hm2 W
      have HQ : Hid (∀ W, _) := fun W => rpasses_any hg1 hg2 (r := m) hm2 W
      have hu := up_of (f := g) (r := m) (by omega)
      have hul := up_lt hg1 hm1
      have hup : 1 ≤ up g m := Nat.le_add_left _ _
      have HU : Hid (∀ W, _) := fun W => passes_any hg1 hg2 (r := up g m) hup (by omega) W
      have HL : Hid _ := (⟨hg1, hm1, hm2⟩ : _ ∧ _ ∧ _)
      have d1 : ¬ (g : Int) < 2 := by omega
      have d2 : ¬ (64 : Int) < (g : Int) := by omega
      have d3 : ¬ (m : Int) < 2 := by omega
      have hne : (g : Int) ≠ 0 := by omega
      have v1 : IntKind.i64.wrap ((m : Int) - 1) = (m : Int) - 1 := wrapI (by omega) (by omega)
      have v2 : Int.tdiv ((m : Int) - 1) (g : Int) = (up g m : Int) - 1 := by omega
      have v3 : IntKind.i64.wrap ((up g m : Int) - 1) = (up g m : Int) - 1 := wrapI (by omega) (by omega)
      have v4 : IntKind.i64.wrap (up g m : Int) = (up g m : Int) := wrapI (by omega) (by omega)
      clear hf hr hw0 hu hul hup hg1 hg2 hm1 hm2
      obtain ⟨u, eu⟩ : ∃ u, u = up g m := ⟨_, rfl⟩
      rw [← eu] at v2 v3 v4 HU
      have EU : Hid _ := eu
      clear eu
      go_enter Try.func3, Try.ntmps3
      go_wp2_with fail
      refine Calls.mono (HA.out _) ?_
      rintro e w1 ⟨rfl, rfl⟩
      go_wp2_with fail
      refine Calls.mono (HP.out _) ?_
      rintro e w1 ⟨n, rfl, hn, rfl⟩
      have hn1 := lst_pos HL.out.2.1 hn
      have hn2 := lst_most HL.out.1 HL.out.2.2 hn
      have n1 : ¬ (n : Int) < 1 := by omega
      have n2 : ¬ (63 : Int) < (n : Int) := by omega
      have HN : Hid _ := hn
      clear hn HP HA
      go_wp2_with fail
      refine Calls.mono (HQ.out _) ?_
      rintro e w2 ⟨n', rfl, hn', rfl⟩
      obtain rfl := lst_det hn' HN.out
      clear hn' HQ
      go_wp2_with fail
      go_loopw [6, 7] (fun s i wr => ∃ j : Nat, j ≤ n' ∧ s = .int .i64 ((ups g m j : Nat) : Int) ∧ i = .int .i64 (j : Int) ∧ wr = w2) (fun _ i _ => n' - (intOf i).toNat)
      case atStart => exact ⟨0, Nat.zero_le _, rfl, rfl, rfl⟩
      case round =>
        obtain ⟨j, hj, rfl, rfl, rfl⟩ := hrel
        obtain ⟨hl1, hl2⟩ := lst_ups (by have := HL.out.1; omega) (by have := HL.out.2.1; omega) HN.out
        by_cases hlt : j < n'
        · have h2 := hl2 j hlt
          have hle : ups g m j ≤ m := by
            clear hj hlt h2 hl1 hl2
            induction j with
            | zero => exact Nat.le_refl _
            | succ j ih =>
              show up g (ups g m j) ≤ m
              by_cases h : 2 ≤ ups g m j
              · have := up_lt HL.out.1 h
                omega
              · have : (ups g m j - 1) / g = 0 := by
                  rw [show ups g m j - 1 = 0 by omega]
                  exact Nat.zero_div _
                unfold up
                have := HL.out.2.1
                omega
          have hu := up_of (f := g) (r := ups g m j) (by omega)
          have hul := up_lt HL.out.1 h2
          have hm2 := HL.out.2.2
          have d4 : ¬ ((ups g m j : Nat) : Int) < 2 := by omega
          have d5 : ¬ ups g m j < 2 := by omega
          have EX : Hid (ups g m (j + 1) = up g (ups g m j)) := rfl
          have y1 : IntKind.i64.wrap ((ups g m j : Int) - 1) = (ups g m j : Int) - 1 := wrapI (by omega) (by omega)
          have y2 : Int.tdiv ((ups g m j : Int) - 1) (g : Int) = (up g (ups g m j) : Int) - 1 := by omega
          have y3 : IntKind.i64.wrap ((up g (ups g m j) : Int) - 1) = (up g (ups g m j) : Int) - 1 := wrapI (by omega) (by omega)
          have y4 : IntKind.i64.wrap (up g (ups g m j) : Int) = (up g (ups g m j) : Int) := wrapI (by omega) (by omega)
          have y5 : IntKind.i64.wrap ((j : Int) + 1) = (j : Int) + 1 := wrapI (by omega) (by omega)
          clear hl1 hl2 h2 hle hu hul hm2 v1 v2 v3 v4 HU EU
          generalize up g (ups g m j) = z at *
          generalize ups g m j = x at *
          have HJ : Hid _ := hlt
          go_wp2_with fail
          go_roundw
          case rel => exact ⟨j + 1, HJ.out, by rw [EX.out], by rw [Int.natCast_add]; rfl, by first | trivial | rfl⟩
          case measure => simp only [intOf]; omega
        · obtain rfl : j = n' := by omega
          rw [hl1]
          have HU2 : Hid (∀ W, Calls Try.prog 4 #[.int .i64 (u : Int), .int .i64 (g : Int)] W fun e w' => e = .returned (.int .i64 ((j : Int) - 1)) ∧ w' = W) := fun W =>
            Calls.mono (HU.out W) fun _ _ ⟨n, h1, h2, h3⟩ => by
              obtain ⟨k, rfl⟩ : ∃ k, j = k + 1 := ⟨j - 1, by omega⟩
              rw [EU.out] at h2
              obtain rfl := lst_det h2 (lst_up (by have := HL.out.1; omega) (by have := HL.out.2.1; omega) HN.out)
              rw [h1, Int.natCast_add, Int.natCast_one, Int.add_sub_cancel]
              exact ⟨rfl, h3⟩
          have y5 : IntKind.i64.wrap ((j : Int) - 1) = (j : Int) - 1 := wrapI (by omega) (by omega)
          have e1 : ¬ j < j := by omega
          clear hl1 hl2 HU EU hj hlt
          go_wp2_with fail
          refine Calls.mono (HU2.out _) ?_
          rintro e w3 ⟨rfl, rfl⟩
          go_wp2_with fail
          go_ret
          exact ⟨by first | exact rfl | (congr 1; simp), rfl⟩
  · have HP : Hid (∀ W, _) := fun W => passes_no hf r W
    clear hw0
    by_cases hf1 : f < 2
    · have d1 : decide (f < 2) = true := decide_eq_true hf1
      clear hf
      go_enter Try.func3, Try.ntmps3
      go_wp2_with fail
      refine Calls.mono (HA.out _) ?_
      rintro e w1 ⟨rfl, rfl⟩
      go_wp2_with fail
      refine Calls.mono (HP.out _) ?_
      rintro e w1 ⟨rfl, rfl⟩
      go_wp2_with fail
      go_ret
      exact ⟨rfl, rfl⟩
    · have d1 : decide (f < 2) = false := decide_eq_false hf1
      have f2 : 64 < f := by omega
      have d2 : decide (64 < f) = true := decide_eq_true f2
      clear hf
      go_enter Try.func3, Try.ntmps3
      go_wp2_with fail
      refine Calls.mono (HA.out _) ?_
      rintro e w1 ⟨rfl, rfl⟩
      go_wp2_with fail
      refine Calls.mono (HP.out _) ?_
      rintro e w1 ⟨rfl, rfl⟩
      go_wp2_with fail
      go_ret
      exact ⟨rfl, rfl⟩
end Go.Proofs.Ytaidooekdldidaa
