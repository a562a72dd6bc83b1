/- What is proved: the law on memory answers true for every number, and leaves all that was there as it was; no condition. -/
import Derived.Test.YtnjpbagfbklofaaCMemL
namespace Go.Proofs.Ytnjpbagfbklofaa
open Go.RowKit

set_option maxRecDepth 100000 in
set_option maxHeartbeats 1600000 in
theorem memory_law (w : World) (m : Int) : Calls Try.prog 8 #[.int .i64 m] w fun e w' => e = .returned (.bool true) ∧ Kept w w' := by
  by_cases h : 1 ≤ m ∧ m ≤ 50
  · obtain ⟨n, rfl⟩ : ∃ n : Nat, m = (n : Int) := ⟨m.toNat, by omega⟩
    exact memory_yes w n (by omega) (by omega)
  · have HAN : Hid _ := anchor13_any w
    by_cases h1 : m < 1
    · have d2 : decide (m < 1) = true := decide_eq_true h1
      clear h
      go_enter Try.func8, Try.ntmps8
      go_wp2_with fail
      refine Calls.mono HAN.out ?_
      rintro e w1 ⟨rfl, k1⟩
      have K1 : Hid (Kept w w1) := k1
      clear k1
      go_wp2_with fail
      go_ret
      exact ⟨rfl, K1.out⟩
    · have d2 : decide (m < 1) = false := decide_eq_false h1
      have d3 : (50 : Int) < m := by omega
      have d4 : decide ((50 : Int) < m) = true := decide_eq_true d3
      clear h
      go_enter Try.func8, Try.ntmps8
      go_wp2_with fail
      refine Calls.mono HAN.out ?_
      rintro e w1 ⟨rfl, k1⟩
      have K1 : Hid (Kept w w1) := k1
      clear k1
      go_wp2_with fail
      go_ret
      exact ⟨rfl, K1.out⟩
end Go.Proofs.Ytnjpbagfbklofaa
