/- What is proved: Write and Close of a writer that refuses, and plain facts of a reader and a writer over a device with two faults; no condition. -/
import Derived.Test.YtepdnmjolhfboaaSAnchW
namespace Go.Proofs.Ytepdnmjolhfboaa
open Go.RowKit

section
variable {o : Nat → Nat} {t : Nat} {w : World} {p : Pl} {sp wb : Nat} {cl : Bool} {bv gv : Value}
set_option maxRecDepth 100000 in
set_option maxHeartbeats 800000 in
theorem write_refused {bl bg : List Int} {sz : Nat} {br : Int} (h : WtrAt o t w p sp wb bl bg sz cl br bv gv) (hne : refu br cl ≠ 0) (v : Value) : Calls Try.prog 23 #[.pointer (some ⟨wb, 0, none⟩), v] w fun x w' => x = .returned (.int .i64 (refu br cl)) ∧ w' = w := by
  have HR : Hid _ := refuse_any h
  obtain ⟨e, ee⟩ : ∃ e, e = refu br cl := ⟨_, rfl⟩
  rw [← ee] at HR hne ⊢
  have hne' : (e != 0) = true := by simpa using hne
  clear h ee
  go_enter Try.func23, Try.ntmps23
  go_wp2_with fail
  refine Calls.mono HR.out ?_
  rintro x w1 ⟨rfl, rfl⟩
  go_wp2_with fail
  go_ret
  exact ⟨rfl, rfl⟩
set_option maxRecDepth 100000 in
set_option maxHeartbeats 800000 in
theorem close_refused {bl bg : List Int} {sz : Nat} {br : Int} (h : WtrAt o t w p sp wb bl bg sz cl br bv gv) (hne : refu br cl ≠ 0) : Calls Try.prog 25 #[.pointer (some ⟨wb, 0, none⟩)] w fun x w' => x = .returned (.tuple #[fileV none 0 0 0, .int .i64 (refu br cl)]) ∧ Kept w w' := by
  have HR : Hid _ := refuse_any (h.on (S := fun _ => False) (o' := o) (w' := w.alloc (.cells #[.slice none 0 0, .int .i64 0] 60)) ⟨(Same.refl _ w).alloc _, fun _ _ => rfl⟩ (fun h => h))
  obtain ⟨e, ee⟩ : ∃ e, e = refu br cl := ⟨_, rfl⟩
  rw [← ee] at HR hne ⊢
  have hne' : (e != 0) = true := by simpa using hne
  have hrb := heap_new w (.cells #[.slice none 0 0, .int .i64 0] 60)
  have HRB : Hid _ := hrb
  clear h ee hrb
  go_enter Try.func25, Try.ntmps25
  go_wp2_with fail
  refine Calls.mono HR.out ?_
  rintro x w1 ⟨rfl, hw1⟩
  have hrb := HRB.out
  rw [← hw1] at hrb
  have k1 : Kept w w1 := by rw [hw1]; exact (Same.refl _ w).alloc _
  have hlr := lt_of_heap hrb
  have r0 : w1.cell? ⟨w.heap.size, 0, none⟩ = some (.slice none 0 0) := (cell_of hrb 0).trans rfl
  have r1 : w1.cell? ⟨w.heap.size, 1, none⟩ = some (.int .i64 0) := (cell_of hrb 1).trans rfl
  have g0 := frozen_of hrb 0
  have g1 := frozen_of hrb 1
  have HF : Hid (∀ W', W' = (w1.setCell ⟨w.heap.size, 0, none⟩ (.slice none 0 0)).setCell ⟨w.heap.size, 1, none⟩ (.int .i64 0) → (loadVar 60 ⟨w.heap.size, 0, none⟩).run Try.prog W' = .ok (fileV none 0 0 0) W' ∧ Kept w W') := fun W' eW => by
    refine ⟨loadVar_file ?_, ?_⟩
    · rw [eW]
      exact setCell_at (setCell_at hrb 0 _) 1 _
    · rw [eW]
      exact Same.setCell (Same.setCell k1 _ (.inl (Nat.le_refl _)) _) _ (.inl (Nat.le_refl _)) _
  clear hrb k1 hw1 HRB
  go_wp2_with fail
  exact bodyPost_ret (results_ct (a := 2) (t := 60) (u := 3) rfl rfl (HF.out _ rfl).1) rfl ⟨rfl, (HF.out _ rfl).2⟩
end

/-- The device of the law, with its two faults. -/
def dB (b : Nat) : M := M.made 16 8 (List.replicate 100 0) [] [⟨1, b, 1, 0⟩, ⟨3, 0, (b : Int) + 1, 0⟩]
def rB1 (b a : Nat) : Int × List Int × RdS := rd .inp a ⟨dB b, 0, []⟩
def rB2 (b a : Nat) : Int × List Int × RdS := rd .inp (100 - a) (rB1 b a).2.2
def wB0 (b a : Nat) : WrS := ⟨(rB2 b a).2.2.m, List.replicate 8 false, [], [], 0, 0⟩
def wB1 (b a : Nat) : Int × WrS := wr (List.replicate a 0) (wB0 b a)
def wB2 (b a : Nat) : Int × WrS := wr (List.replicate (112 - a) 0) (wB1 b a).2
def okB (b a : Nat) : Bool :=
  (rB1 b a).1 == 0 && (rB2 b a).1 == 37 && (wB1 b a).1 == 0 && (wB2 b a).1 == 38 && (wB2 b a).2.br == 38 && (wB2 b a).2.sz == 0 && fcnt (wB2 b a).2.u == 8 && (wB2 b a).2.m.cW == b + 1 && decide ((rB1 b a).2.2.m.k ≤ 1000) && decide ((rB2 b a).2.2.m.k ≤ 1000) && decide ((wB1 b a).2.m.k ≤ 1000)
theorem okB_run : ((List.range 6).all fun b => (List.range 81).all fun a => decide (b * 16 < a) || okB b a) = true := by kernel_rfl
theorem okB_all {b a : Nat} (hb : b ≤ 5) (ha : a ≤ b * 16) : (rB1 b a).1 = 0 ∧ (rB2 b a).1 = 37 ∧ (wB1 b a).1 = 0 ∧ (wB2 b a).1 = 38 ∧ (wB2 b a).2.br = 38 ∧ (wB2 b a).2.sz = 0 ∧ fcnt (wB2 b a).2.u = 8 ∧ (wB2 b a).2.m.cW = b + 1 ∧ (rB1 b a).2.2.m.k ≤ 1000 ∧ (rB2 b a).2.2.m.k ≤ 1000 ∧ (wB1 b a).2.m.k ≤ 1000 := by
  have h := List.all_eq_true.1 (List.all_eq_true.1 okB_run b (by simp; omega)) a (by simp; omega)
  have hn : decide (b * 16 < a) = false := by simp; omega
  rw [hn, Bool.false_or] at h
  simpa [okB, and_assoc] using h
end Go.Proofs.Ytepdnmjolhfboaa
