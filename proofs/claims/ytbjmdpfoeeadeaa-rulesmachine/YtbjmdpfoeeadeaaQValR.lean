/- What is proved: the document's Valid tells whether a row is right, for every row; no condition. -/
import Derived.Test.YtbjmdpfoeeadeaaQVal
namespace Go.Proofs.Ytbjmdpfoeeadeaa.Rw
open Go.RowKit

set_option maxRecDepth 100000 in
set_option maxHeartbeats 1600000 in
theorem validR9_any (r : RwM) (w : World) : Calls Try.prog 22 #[rowV r] w fun e w' => e = .returned (.bool (decide (rightR r))) ∧ Kept w w' := by
  obtain ⟨kind, time, seq, index, frm, til, body⟩ := r
  obtain ⟨v, ev⟩ : ∃ v : Bool, v = decide (rightR ⟨kind, time, seq, index, frm, til, body⟩) := ⟨_, rfl⟩
  have EV : Hid (v = true ↔ ((1 ≤ kind ∧ kind ≤ 3) ∧ (0 ≤ time ∧ time ≤ 1099511627776) ∧ (0 ≤ seq ∧ seq ≤ 1048575) ∧ (0 ≤ index ∧ index ≤ 4095) ∧ (0 ≤ frm ∧ frm ≤ 1099511627776) ∧ (0 ≤ til ∧ til ≤ 1099511627776) ∧ (body.size : Int) ≤ 512)) := by
    show v = true ↔ _
    rw [ev, decide_eq_true_iff]
    unfold rightR inB
    simp only
    omega
  rw [← ev]
  clear ev
  unfold rowV
  simp only
  go_enter Try.func22, Try.ntmps22
  go_wp2
  all_goals (go_ret; refine ⟨congrArg Ending.returned (congrArg Value.bool (Bool.eq_iff_iff.2 ?_)), (Same.refl _ w).alloc _⟩)
  all_goals rw [EV.out]
  all_goals (try simp only [decide_eq_true_eq, Bool.false_eq_true, false_iff])
  all_goals omega
end Go.Proofs.Ytbjmdpfoeeadeaa.Rw
