/- What is proved: the law ViolKeeps answers true of every list that lies in memory; no condition. -/
import Derived.Test.YticahglmlfflbaaVKp
import Derived.Test.YticahglmlfflbaaVStb
import Derived.Test.YticahglmlfflbaaVEq
import Derived.Test.YticahglmlfflbaaVTn
import Derived.Test.YticahglmlfflbaaVOpen
namespace Go.Proofs.Yticahglmlfflbaa
open Go.RowKit

/-- Are two violations the same, field by field? -/
def eqV (x y : Vl) : Bool := decide (x.kd = y.kd ∧ x.tm = y.tm ∧ x.tx = y.tx ∧ x.op = y.op ∧ x.wi = y.wi ∧ x.key.toList = y.key.toList ∧ x.wa = y.wa ∧ x.ex.toList = y.ex.toList ∧ x.go = y.go ∧ x.ob.toList = y.ob.toList ∧ x.fr = y.fr ∧ x.tt = y.tt)
theorem ak18 : Ak Try.prog 12 vl1 eqV :=
  ⟨by kernel_rfl, ekV, Try.func5, Try.call9, Try.call18, Try.call17, anchor18, fun _ _ _ _ h1 h2 h3 => sort18 h1 h2 h3, compare18, equal18, guard18, Try.underlying3, Try.underlying4, Try.underlying28, Try.isAgg3, Try.isAgg4, Try.isAgg28, Try.isAgg30, Try.sizeOf3, Try.sizeOf4, Try.sizeOf28, Try.sizeOf30, ⟨_, rfl, Try.zeroValue30⟩, by decide, _, 120, Try.infoViol, rfl, by decide⟩
set_option maxRecDepth 100000 in
set_option maxHeartbeats 1600000 in
theorem keeps_out (w : World) (a : Option Addr) (cap n : Nat) (hn : 300 < n) (hm : n ≤ 1172812402961) : Calls Try.prog 5 #[.slice a n cap] w fun e w' => e = .returned (.bool true) ∧ Kept w w' := by
  have HA : Hid _ := anchor18 w
  have d1 : decide ((n : Int) > 300) = true := decide_eq_true (by omega)
  have d1' : (300 : Int) < (n : Int) := by omega
  go_enter Try.func5, Try.ntmps5
  go_wp2_with fail
  refine Calls.mono HA.out ?_
  rintro r w1 ⟨rfl, k1⟩
  have K1 : Hid (Kept w w1) := k1
  clear k1 HA
  go_wp2_with fail
  go_ret
  exact ⟨rfl, K1.out⟩
theorem keeps_law (w : World) (a : Option Addr) (cap : Nat) (l : List Vl) (h : ArgV w a cap l) : Calls Try.prog 5 #[.slice a l.length cap] w fun e w' => e = .returned (.bool true) ∧ Kept w w' := by
  by_cases hl : l.length ≤ 300
  · exact keeps_p ak18 w a cap l h.at_ h.nil hl
  · exact keeps_out w a cap l.length (by omega) h.len
end Go.Proofs.Yticahglmlfflbaa
