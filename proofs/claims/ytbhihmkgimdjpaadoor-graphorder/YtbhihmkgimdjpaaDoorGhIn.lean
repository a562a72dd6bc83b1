/- What is proved: the reference's In tells whether a label is in a mask; no condition but the label's bounds. -/
import Derived.Test.YtbhihmkgimdjpaaDoorGhOr
namespace Go.Proofs.YtbhihmkgimdjpaaDoor
open Go.RowKit

set_option maxRecDepth 100000 in
set_option maxHeartbeats 3200000 in
theorem in19 (l m : Int) (h1 : 1 ≤ l) (h8 : l ≤ 8) (w : World) : Calls Tryd.prog 20 #[.int .i64 l, .int .i64 m] w fun r w' => r = .returned (.bool (inM l m)) ∧ Grw w w' := by
  obtain ⟨K, rfl⟩ : ∃ K : Nat, l = (K : Int) + 1 := ⟨(l - 1).toNat, by omega⟩
  have hK : K ≤ 7 := by omega
  have hm : inM ((K : Int) + 1) m = decide (m / 2 ^ K % 2 = 1) := by unfold inM; rw [show ((K : Int) + 1 - 1).toNat = K by omega]
  have HM : Hid _ := hm
  clear h1 h8 hm
  go_enter Tryd.func20, Tryd.ntmps20
  go_wp2_with fail
  go_loopw [1, 5] (fun s1 s5 wr => ∃ j : Nat, s5 = .int .i64 ((j : Int) + 1) ∧ j ≤ K ∧ s1 = .int .i64 (m / 2 ^ j) ∧ Grw w wr) (fun _ i _ => 100 - (intOf i).toNat)
  case atStart => exact ⟨0, rfl, Nat.zero_le _, by rw [Int.pow_zero, Int.ediv_one], Grw.refl _⟩
  case round =>
    obtain ⟨j, rfl, hj, rfl, kg⟩ := hrel
    rename World => WL
    have HG : Hid (Grw w WL) := kg
    by_cases hlt : j < K
    · have c1 : (j : Int) + 1 < (K : Int) + 1 := by omega
      have c2 : (j : Int) ≤ 7 := by omega
      have HJ : Hid (j < K ∧ K ≤ 7) := ⟨hlt, hK⟩
      have hd : m / 2 ^ j / 2 = m / 2 ^ (j + 1) := by rw [Int.pow_succ, Int.ediv_ediv_of_nonneg (Int.le_of_lt (Int.pow_pos (by decide)))]
      have HD : Hid _ := hd
      clear hlt hd kg
      go_wp2_with fail
      exact ⟨⟨j + 1, rfl, HJ.out.1, by rw [HD.out], HG.out⟩, by simp only [intOf]; have := HJ.out; omega⟩
    · obtain rfl : j = K := by omega
      have c1 : ¬ (j : Int) + 1 < (j : Int) + 1 := by omega
      clear kg
      go_wp2_with fail
      go_ret
      exact ⟨by rw [HM.out, ← odd_at]; rfl, HG.out⟩
end Go.Proofs.YtbhihmkgimdjpaaDoor
