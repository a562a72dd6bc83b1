/- What is proved: the law's own first test ('anchor') answers true and turns nothing that was there; no condition. -/
import Derived.Test.YtkkkndbfokjikabChildT
namespace Go.Proofs.Ytkkkndbfokjikab
open Go.Conc Go.RowKit Go.MuLone

/-! the methods, each answer under its own name -/
theorem stopped_val {T : Tr} (w : World) (h : Holds 0 w T) (i : Nat) (hi : i < T.n) (p : Addr) (hp : (⟨T.blk i, 0, none⟩ : Addr) = p) (v : Bool) (hv : (!(T.cause i == 0)) = v) :
    Calls Try.prog 9 #[.pointer (some p)] w fun e w' => e = .returned (.bool v) ∧ Holds 0 w' T ∧ Same (Foot T) w w' := by subst hp; subst hv; exact stopped_any w h i hi
theorem cause_val {T : Tr} (w : World) (h : Holds 0 w T) (i : Nat) (hi : i < T.n) (p : Addr) (hp : (⟨T.blk i, 0, none⟩ : Addr) = p) (v : Int) (hv : T.cause i = v) :
    Calls Try.prog 11 #[.pointer (some p)] w fun e w' => e = .returned (.int .i64 v) ∧ Holds 0 w' T ∧ Same (Foot T) w w' := by subst hp; subst hv; exact cause_any w h i hi
theorem left_val {T : Tr} (w : World) (h : Holds 0 w T) (i : Nat) (hi : i < T.n) (p : Addr) (hp : (⟨T.blk i, 0, none⟩ : Addr) = p) (v : Int) (hv : T.left i = v) :
    Calls Try.prog 20 #[.pointer (some p)] w fun e w' => e = .returned (.int .i64 v) ∧ Holds 0 w' T ∧ Same (Foot T) w w' := by subst hp; subst hv; exact left_any w h i hi

theorem up_root (par : Nat → Option Nat) (h : par 0 = none) : up par (0 + 1) 0 = [0] := by simp [up, h]
theorem spent_root (par : Nat → Option Nat) (left : Nat → Int) (h : par 0 = none) : spent par left 0 = if (left 0 == 0) = true then some 0 else none := by
  unfold spent
  rw [up_root par h]
  rfl
theorem dec_root (par : Nat → Option Nat) (left : Nat → Int) (h : par 0 = none) : dec par left 0 = upd left 0 (left 0 - 1) := by
  unfold dec
  rw [up_root par h]
  rfl
theorem sw_one (par : Nat → Option Nat) (c : Nat → Int) (h : par 0 = none) : sw par c 1 = c := by
  show swS par c 0 = c
  simp [swS, hit, h]

set_option maxRecDepth 100000 in
set_option maxHeartbeats 800000 in
theorem anchor_true (w : World) : Calls Try.prog 4 #[] w fun e w' => e = .returned (.bool true) ∧ Same (fun _ => False) w w' := by
  have hnot : ∀ (x : Bool) (w : World), (Op.unary .not (.bool x)).run Try.prog w = .ok (.bool (!x)) w := fun _ _ => rfl
  go_enter Try.func4, Try.ntmps4
  go_wp2_with fail
  refine (new_yes 1 w (by omega) (by omega)).mono ?_
  rintro e w1 ⟨rfl, sv, h1, f1, s1⟩
  go_wp2_with fail
  refine (stopped_val w1 h1 0 Nat.one_pos _ rfl false rfl).mono ?_
  rintro e w2 ⟨rfl, h2, s2⟩
  go_wp2_with fail
  refine (beat_take w2 h2 (fun k _ => ⟨by simp [seedTr], by simp [seedTr]⟩) 0 Nat.one_pos rfl rfl).mono ?_
  rintro e w3 ⟨rfl, h3, s3⟩
  go_wp2_with fail
  refine (beat_spent w3 h3 (fun k p _ hp => by simp [mTake, seedTr] at hp) 0 Nat.one_pos rfl 0 rfl).mono ?_
  rintro e w4 ⟨rfl, h4, s4⟩
  go_wp2_with fail
  refine (stopped_val w4 h4 0 Nat.one_pos _ rfl true rfl).mono ?_
  rintro e w5 ⟨rfl, h5, s5⟩
  go_wp2_with fail
  refine (cause_val w5 h5 0 Nat.one_pos _ rfl 2 rfl).mono ?_
  rintro e w6 ⟨rfl, h6, s6⟩
  go_wp2_with fail
  go_ret
  refine ⟨rfl, ?_⟩
  have hlo : ∀ k, k < w.heap.size → Foot (seedTr w.heap.size sv 1) k → False := fun k hk hf => by have := f1 k hf; omega
  exact ((((s1.trans s2 hlo).trans s3 hlo).trans s4 hlo).trans s5 hlo).trans s6 hlo
end Go.Proofs.Ytkkkndbfokjikab
