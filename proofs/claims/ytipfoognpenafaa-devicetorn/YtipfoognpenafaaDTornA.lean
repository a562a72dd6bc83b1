/- What is proved: DeviceTorn returns true at once where its arguments are out of bounds; the arguments lie in memory. -/
import Derived.Test.YtipfoognpenafaaDTornM
namespace Go.Proofs.Ytipfoognpenafaa
open Go.RowKit

set_option maxRecDepth 100000 in
set_option maxHeartbeats 1600000 in
theorem torn_trivA (B S keep : Int) (ia ga fa : Option Addr) (ni ic ng gc nf fc : Nat) (sv : Value) (w : World) (h : B < 16 ∨ 1024 < B ∨ S < 1 ∨ 4096 < S ∨ 4194304 < ni) :
    Calls Try.prog 6 #[setupV B S ia ga fa ni ic ng gc nf fc, .int .i64 keep, sv] w fun e w' => e = .returned (.bool true) ∧ Kept w w' := by
  have hnot : ∀ (x : Bool) (w : World), (Op.unary .not (.bool x)).run Try.prog w = .ok (.bool (!x)) w := fun _ _ => rfl
  have HB0 : Hid ((w.alloc (setupO B S ia ga fa ni ic ng gc nf fc)).heap[w.heap.size]? = some (setupO B S ia ga fa ni ic ng gc nf fc)) := heap_new w _
  have HA : Hid (∀ w', _) := fun w' => anchor_any w'
  have tests : (decide (B < 16) = true) ∨ (decide (B < 16) = false ∧ decide (1024 < B) = true) ∨ (decide (B < 16) = false ∧ decide (1024 < B) = false ∧ decide (S < 1) = true) ∨ (decide (B < 16) = false ∧ decide (1024 < B) = false ∧ decide (S < 1) = false ∧ decide (4096 < S) = true) ∨ (decide (B < 16) = false ∧ decide (1024 < B) = false ∧ decide (S < 1) = false ∧ decide (4096 < S) = false ∧ decide (4194304 < (ni : Int)) = true) := by
    simp only [decide_eq_false_iff_not, decide_eq_true_eq]; omega
  clear h
  unfold setupV
  rcases tests with t1 | ⟨t1, t2⟩ | ⟨t1, t2, t3⟩ | ⟨t1, t2, t3, t4⟩ | ⟨t1, t2, t3, t4, t5⟩
  all_goals
    go_enter Try.func6, Try.ntmps6
    go_wp2_with fail
    refine Calls.mono (HA.out _) ?_
    rintro e w2 ⟨rfl, k2⟩
    obtain ⟨x0, x1, x2, x3, x4⟩ := setup_cells ((k2.block _ (by simp) (fun h => h)).trans HB0.out)
    have K2 : Hid _ := k2
    clear k2
    go_wp2_with fail
    go_ret
    exact ⟨rfl, ((Same.refl _ w).alloc _).trans' K2.out⟩

set_option maxRecDepth 100000 in
set_option maxHeartbeats 1600000 in
theorem torn_trivB (B S : Nat) (keep : Int) (ia ga fa : Option Addr) (ni ic ng gc nf fc : Nat) (sv : Value) (w : World) (g1 : 16 ≤ B) (g2 : B ≤ 1024) (g3 : 1 ≤ S) (g4 : S ≤ 4096) (g5 : ni ≤ 4194304) (h : B * S < ng ∨ keep < 0 ∨ (B : Int) < keep) :
    Calls Try.prog 6 #[setupV B S ia ga fa ni ic ng gc nf fc, .int .i64 keep, sv] w fun e w' => e = .returned (.bool true) ∧ Kept w w' := by
  have hnot : ∀ (x : Bool) (w : World), (Op.unary .not (.bool x)).run Try.prog w = .ok (.bool (!x)) w := fun _ _ => rfl
  have HB0 : Hid ((w.alloc (setupO B S ia ga fa ni ic ng gc nf fc)).heap[w.heap.size]? = some (setupO B S ia ga fa ni ic ng gc nf fc)) := heap_new w _
  have HA : Hid (∀ w', _) := fun w' => anchor_any w'
  obtain ⟨t, et⟩ : ∃ t, t = B * S := ⟨_, rfl⟩
  have hbs : (B : Int) * (S : Int) = (t : Int) := by rw [et]; simp
  have hbs2 : t ≤ 4194304 := by rw [et]; exact Nat.le_trans (Nat.mul_le_mul g2 g4) (by decide)
  rw [← et] at h
  have t1 : decide ((B : Int) < 16) = false := by simp only [decide_eq_false_iff_not]; omega
  have t2 : decide (1024 < (B : Int)) = false := by simp only [decide_eq_false_iff_not]; omega
  have t3 : decide ((S : Int) < 1) = false := by simp only [decide_eq_false_iff_not]; omega
  have t4 : decide (4096 < (S : Int)) = false := by simp only [decide_eq_false_iff_not]; omega
  have t5 : decide (4194304 < (ni : Int)) = false := by simp only [decide_eq_false_iff_not]; omega
  have tests : (decide ((t : Int) < (ng : Int)) = true ∧ decide (t < ng) = true ∧ t < ng) ∨ (decide ((t : Int) < (ng : Int)) = false ∧ decide (t < ng) = false ∧ ¬ t < ng ∧ decide (keep < 0) = true ∧ keep < 0) ∨ (decide ((t : Int) < (ng : Int)) = false ∧ decide (t < ng) = false ∧ ¬ t < ng ∧ decide (keep < 0) = false ∧ ¬ keep < 0 ∧ decide ((B : Int) < keep) = true ∧ (B : Int) < keep) := by
    simp only [decide_eq_false_iff_not, decide_eq_true_eq]; omega
  clear h et
  unfold setupV
  rcases tests with ⟨t6, u6, v6⟩ | ⟨t6, u6, v6, t7, v7⟩ | ⟨t6, u6, v6, t7, v7, t8, v8⟩
  all_goals
    go_enter Try.func6, Try.ntmps6
    go_wp2_with fail
    refine Calls.mono (HA.out _) ?_
    rintro e w2 ⟨rfl, k2⟩
    obtain ⟨x0, x1, x2, x3, x4⟩ := setup_cells ((k2.block _ (by simp) (fun h => h)).trans HB0.out)
    have K2 : Hid _ := k2
    clear k2
    go_wp2_with fail
    go_ret
    exact ⟨rfl, ((Same.refl _ w).alloc _).trans' K2.out⟩
end Go.Proofs.Ytipfoognpenafaa
