/- What is proved: RecordFields answers true for every number and either answer. -/
import Derived.Test.YtcmoejnljhmflabRFldP
import Derived.Test.YtcmoejnljhmflabRFldB
import Derived.Deep.DeepCutAuto
import Derived.Deep.CutBlock
import Derived.Deep.RegionHeld3
namespace Go.Proofs.Ytcmoejnljhmflab
open Go.RowKit

set_option maxRecDepth 100000 in
theorem fields_low (w : World) (which : Int) (p : Bool) (h : which < 0) :
    Calls Try.prog 3 #[.int .i64 which, .bool p] w fun e w' => e = .returned (.bool true) ∧ Kept w w' := by
  have hnot : ∀ (x : Bool) (w : World), (Op.unary .not (.bool x)).run Try.prog w = .ok (.bool (!x)) w := fun _ _ => rfl
  have HA : Hid (∀ W, _) := fun W => anchor_any W
  have d0 : decide (which < 0) = true := decide_eq_true (by omega)
  go_enter Try.func3, Try.ntmps3
  go_wp2_with fail
  refine Calls.mono (HA.out _) ?_
  rintro e w1 ⟨rfl, k1⟩
  have K1 : Hid _ := k1
  clear k1
  go_wp2_with fail
  go_ret
  exact ⟨rfl, K1.out⟩
set_option maxRecDepth 100000 in
theorem fields_high (w : World) (which : Int) (p : Bool) (h : 10 < which) :
    Calls Try.prog 3 #[.int .i64 which, .bool p] w fun e w' => e = .returned (.bool true) ∧ Kept w w' := by
  have hnot : ∀ (x : Bool) (w : World), (Op.unary .not (.bool x)).run Try.prog w = .ok (.bool (!x)) w := fun _ _ => rfl
  have HA : Hid (∀ W, _) := fun W => anchor_any W
  have d0 : decide (which < 0) = false := decide_eq_false (by omega)
  have d1 : decide (10 < which) = true := decide_eq_true (by omega)
  have d0' : ¬ which < 0 := by omega
  go_enter Try.func3, Try.ntmps3
  go_wp2_with fail
  refine Calls.mono (HA.out _) ?_
  rintro e w1 ⟨rfl, k1⟩
  have K1 : Hid _ := k1
  clear k1
  go_wp2_with fail
  go_ret
  exact ⟨rfl, K1.out⟩
theorem fields_any (w : World) (which : Int) (p : Bool) :
    Calls Try.prog 3 #[.int .i64 which, .bool p] w fun e w' => e = .returned (.bool true) ∧ Kept w w' := by
  by_cases h0 : which < 0
  · exact fields_low w which p h0
  · by_cases h1 : 10 < which
    · exact fields_high w which p h1
    · cases p
      · exact fields_at w which (by omega) (by omega)
      · exact fields_past w which (by omega) (by omega)
end Go.Proofs.Ytcmoejnljhmflab
