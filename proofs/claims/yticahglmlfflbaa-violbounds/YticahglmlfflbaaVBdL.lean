/- What is proved: the law ViolBounds holds of every number and bool; no condition. -/
import Derived.Test.YticahglmlfflbaaVBdA
import Derived.Test.YticahglmlfflbaaVBdB
import Derived.Test.YticahglmlfflbaaVBdC
import Derived.Test.YticahglmlfflbaaVBdD
namespace Go.Proofs.Yticahglmlfflbaa
open Go.RowKit

set_option maxRecDepth 100000 in
set_option maxHeartbeats 1600000 in
theorem bnd_out (which : Int) (past : Bool) (h : which < 0 ∨ 12 < which) (w : World) : Calls Try.prog 7 #[.int .i64 which, .bool past] w fun e w' => e = .returned (.bool true) ∧ Kept w w' := by
  have HA : Hid _ := anchor18 w
  by_cases h0 : which < 0
  · have d0 : decide (which < 0) = true := decide_eq_true h0
    go_enter Try.func7, Try.ntmps7
    go_wp2_with fail
    refine Calls.mono HA.out ?_
    rintro r w1 ⟨rfl, k1⟩
    have K1 : Hid (Kept w w1) := k1
    clear k1 HA
    go_wp2_with fail
    go_ret
    exact ⟨rfl, K1.out⟩
  · have d0 : decide (which < 0) = false := decide_eq_false h0
    have d1 : decide (which > 12) = true := decide_eq_true (by omega)
    have d1' : 12 < which := by omega
    go_enter Try.func7, Try.ntmps7
    go_wp2_with fail
    refine Calls.mono HA.out ?_
    rintro r w1 ⟨rfl, k1⟩
    have K1 : Hid (Kept w w1) := k1
    clear k1 HA
    go_wp2_with fail
    go_ret
    exact ⟨rfl, K1.out⟩
theorem bounds_law (which : Int) (past : Bool) (w : World) : Calls Try.prog 7 #[.int .i64 which, .bool past] w fun e w' => e = .returned (.bool true) ∧ Kept w w' := by
  by_cases h : which < 0 ∨ 12 < which
  · exact bnd_out which past h w
  · have h2 : which = 0 ∨ which = 1 ∨ which = 2 ∨ which = 3 ∨ which = 4 ∨ which = 5 ∨ which = 6 ∨ which = 7 ∨ which = 8 ∨ which = 9 ∨ which = 10 ∨ which = 11 ∨ which = 12 := by omega
    rcases h2 with rfl | rfl | rfl | rfl | rfl | rfl | rfl | rfl | rfl | rfl | rfl | rfl | rfl <;> cases past
    · exact bnd0_false w
    · exact bnd0_true w
    · exact bnd1_false w
    · exact bnd1_true w
    · exact bnd2_false w
    · exact bnd2_true w
    · exact bnd3_false w
    · exact bnd3_true w
    · exact bnd4_false w
    · exact bnd4_true w
    · exact bnd5_false w
    · exact bnd5_true w
    · exact bnd6_false w
    · exact bnd6_true w
    · exact bnd7_false w
    · exact bnd7_true w
    · exact bnd8_false w
    · exact bnd8_true w
    · exact bnd9_false w
    · exact bnd9_true w
    · exact bnd10_false w
    · exact bnd10_true w
    · exact bnd11_false w
    · exact bnd11_true w
    · exact bnd12_false w
    · exact bnd12_true w
end Go.Proofs.Yticahglmlfflbaa
