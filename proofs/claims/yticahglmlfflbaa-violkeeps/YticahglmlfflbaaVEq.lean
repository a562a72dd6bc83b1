/- What is proved: whether two violations are the same, as the program asks it, hangs on the two alone; no condition. -/
import Derived.Test.YticahglmlfflbaaVTop
namespace Go.Proofs.Yticahglmlfflbaa
open Go.RowKit

set_option maxRecDepth 100000 in
set_option maxHeartbeats 3200000 in
theorem equal18 (x y : Vl) (W : World) : Sem.run Try.prog (Op.equalIn 10000 30 (vlV x) (vlV y)) W = .ok (decide (x.kd = y.kd ∧ x.tm = y.tm ∧ x.tx = y.tx ∧ x.op = y.op ∧ x.wi = y.wi ∧ x.key.toList = y.key.toList ∧ x.wa = y.wa ∧ x.ex.toList = y.ex.toList ∧ x.go = y.go ∧ x.ob.toList = y.ob.toList ∧ x.fr = y.fr ∧ x.tt = y.tt)) W := by
  go_simp
  by_cases h1 : x.kd = y.kd <;> simp [h1]
  by_cases h2 : x.tm = y.tm <;> simp [h2]
  by_cases h3 : x.tx = y.tx <;> simp [h3]
  by_cases h4 : x.op = y.op <;> simp [h4]
  by_cases h5 : x.wi = y.wi <;> simp [h5]
  by_cases h6 : x.key.toList = y.key.toList <;> simp [h6]
  by_cases h7 : x.wa = y.wa <;> simp [h7]
  by_cases h8 : x.ex.toList = y.ex.toList <;> simp [h8]
  by_cases h9 : x.go = y.go <;> simp [h9]
  by_cases h10 : x.ob.toList = y.ob.toList <;> simp [h10]
  by_cases h11 : x.fr = y.fr <;> simp [h11]
  by_cases h12 : x.tt = y.tt <;> simp [h12]
set_option maxRecDepth 100000 in
set_option maxHeartbeats 3200000 in
theorem guard18 (i j : Nat) (x y : Vl) (W : World) : Sem.run Try.prog (eqGuard .eql 30 (.tmp i) (.tmp j) (vlV x) (vlV y)) W = .ok () W := by
  go_simp
end Go.Proofs.Yticahglmlfflbaa
