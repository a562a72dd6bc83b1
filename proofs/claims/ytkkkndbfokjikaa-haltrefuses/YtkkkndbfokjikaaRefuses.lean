/- What is proved: HaltRefuses returns true whatever its argument, and leaves all that was there as it was; no condition. -/
import Derived.Test.YtkkkndbfokjikaaAnchor
import Derived.ProofKit
import Derived.OpenShut
namespace Go.Proofs.Ytkkkndbfokjikaa.haltRefuses
open Go.ChangeShapes Go.WideShapes Go.ChangeAt Go.RowKit Go.Conc

set_option maxRecDepth 100000 in
set_option maxHeartbeats 800000 in
theorem walk_no (a0 : Int) (w : World) (h : a0 < 0 ∨ 1099511627776 < a0) :
    Calls Try.prog 7 #[.int .i64 a0] w fun e w' => e = .returned (.bool true) ∧ Below w.heap.size w w' := by
  have hnot : ∀ (x : Bool) (w : World), (Op.unary .not (.bool x)).run Try.prog w = .ok (.bool (!x)) w := fun _ _ => rfl
  have HO : Hid _ := h
  have tests : ((0 ≤ a0) ∧ decide (a0 ≤ 1099511627776) = false) ∨ decide (0 ≤ a0) = false := by simp only [decide_eq_false_iff_not]; omega
  clear h
  rcases tests with ⟨t1, t2⟩ | t1
  all_goals
    go_enter Try.func7, Try.ntmps7
    go_wp2_with fail
    refine (anchor_true w).mono ?_
    rintro e w1 ⟨rfl, s1⟩
    go_wp2_with fail
    refine (new_no a0 w1 HO.out).mono ?_
    rintro e w2 ⟨rfl, hw⟩
    subst w2
    go_wp2_with fail
    refine (new_yes 7 w1 (by omega) (by omega)).mono ?_
    rintro e w3 ⟨rfl, sv3, h3, f3, s3⟩
    go_wp2_with fail
    refine (child_no _ a0 w3 HO.out).mono ?_
    rintro e w4 ⟨rfl, hw⟩
    subst w4
    go_wp2_with fail
    refine (left_val w3 h3 0 Nat.one_pos _ rfl 7 rfl).mono ?_
    rintro e w5 ⟨rfl, h5, s5⟩
    go_wp2_with fail
    refine (beat_take w5 h5 (fun k _ => ⟨by simp [seedTr], by simp [seedTr]⟩) 0 Nat.one_pos rfl rfl).mono ?_
    rintro e w6 ⟨rfl, h6, s6⟩
    go_wp2_with fail
    go_ret
    refine ⟨rfl, ?_⟩
    have hlo : ∀ k, k < w1.heap.size → Foot (seedTr w1.heap.size sv3 7) k → False := fun k hk hf => by have := f3 k hf; omega
    have s36 := (s3.trans s5 hlo).trans s6 hlo
    exact (s1.trans s36 fun _ _ h => h).below (Nat.le_refl _) (fun _ h => h.elim)

set_option maxRecDepth 100000 in
set_option maxHeartbeats 800000 in
theorem walk_yes (a0 : Int) (w : World) (t1 : 0 ≤ a0) (t2 : a0 ≤ 1099511627776) :
    Calls Try.prog 7 #[.int .i64 a0] w fun e w' => e = .returned (.bool true) ∧ Below w.heap.size w w' := by
  have hnot : ∀ (x : Bool) (w : World), (Op.unary .not (.bool x)).run Try.prog w = .ok (.bool (!x)) w := fun _ _ => rfl
  have heq : (a0 == a0) = true := by simp
  go_enter Try.func7, Try.ntmps7
  go_wp2_with fail
  refine (anchor_true w).mono ?_
  rintro e w1 ⟨rfl, s1⟩
  go_wp2_with fail
  refine (new_yes a0 w1 t1 t2).mono ?_
  rintro e w2 ⟨rfl, sv2, h2, f2, s2⟩
  go_wp2_with fail
  refine (new_yes 7 w2 (by omega) (by omega)).mono ?_
  rintro e w3 ⟨rfl, sv3, h3, f3, s3⟩
  go_wp2_with fail
  refine (child_yes w3 h3 0 Nat.one_pos a0 t1 t2 (by show 1 < 256; omega)).mono ?_
  rintro e w4 ⟨rfl, sv4, h4, f4, s4⟩
  have l2 : ∀ k, Foot (seedTr w1.heap.size sv2 a0) k → k < w2.heap.size := fun k hk => h2.lt hk
  have h24 : Holds 0 w4 (seedTr w1.heap.size sv2 a0) := (h2.kept s3 fun _ _ h => h).kept s4 fun k hk hf => by have := l2 k hk; have := f3 k hf; omega
  have f4' : ∀ k, Foot (kidTr (seedTr w2.heap.size sv3 7) 0 a0 (born 0) sv4 (w3.heap.size + 1) w3.heap.size) k → w2.heap.size ≤ k := fun k hk => by
    rcases foot_kid f4 (Nat.le_succ _) (Nat.le_refl _) k hk with h | h
    · exact f3 k h
    · have := s3.size; omega
  go_wp2_with fail
  refine (left_val w4 h24 0 Nat.one_pos _ rfl a0 rfl).mono ?_
  rintro e w5 ⟨rfl, h5, s5⟩
  have h45 := h4.kept s5 fun k hk hf => by have := f4' k hk; have := l2 k hf; omega
  go_wp2_with fail
  refine (left_val w5 h45 1 (by show 1 < 2; omega) _ rfl a0 rfl).mono ?_
  rintro e w6 ⟨rfl, h6, s6⟩
  go_wp2_with fail
  refine (stopped_val w6 h6 1 (by show 1 < 2; omega) _ rfl false rfl).mono ?_
  rintro e w7 ⟨rfl, h7, s7⟩
  go_wp2_with fail
  go_ret
  refine ⟨rfl, ?_⟩
  have z1 := s1.below (B := w.heap.size) (Nat.le_refl _) (fun _ h => h.elim)
  have z2 := s2.below (B := w.heap.size) s1.size (fun _ h => h.elim)
  have e2 := Nat.le_trans s1.size s2.size
  have z3 := s3.below (B := w.heap.size) e2 (fun _ h => h.elim)
  have e3 := Nat.le_trans e2 s3.size
  have z4 := s4.below (B := w.heap.size) e3 (fun k h => by have := f3 k h; omega)
  have e4 := Nat.le_trans e3 s4.size
  have z5 := s5.below (B := w.heap.size) e4 (fun k h => by have := f2 k h; have := s1.size; omega)
  have e5 := Nat.le_trans e4 s5.size
  have z6 := s6.below (B := w.heap.size) e5 (fun k h => by have := f4' k h; omega)
  have e6 := Nat.le_trans e5 s6.size
  have z7 := s7.below (B := w.heap.size) e6 (fun k h => by have := f4' k h; omega)
  exact (((((z1.trans z2).trans z3).trans z4).trans z5).trans z6).trans z7

theorem walk (a0 : Int) (w : World) :
    Calls Try.prog 7 #[.int .i64 a0] w fun e w' => e = .returned (.bool true) ∧ Below w.heap.size w w' := by
  by_cases h : 0 ≤ a0 ∧ a0 ≤ 1099511627776
  · exact walk_yes a0 w h.1 h.2
  · exact walk_no a0 w (by omega)
end Go.Proofs.Ytkkkndbfokjikaa.haltRefuses
