/- What is proved: a walk over session rows tells of each row what the document says, in a list of its own; the walk lies in memory. -/
import Derived.Test.YtbjmdpfoeeadeaaJAnc
import Derived.Test.YtbjmdpfoeeadeaaQCmp
import Derived.Test.YtbjmdpfoeeadeaaQValR
namespace Go.Proofs.Ytbjmdpfoeeadeaa.Sw
open Go.RowKit

abbrev rwO (r : Rw.RwM) (ty : TypeId) : Obj := .cells #[.int .i64 r.kind, .int .i64 r.time, .int .i64 r.seq, .int .i64 r.index, .int .i64 r.frm, .int .i64 r.til, .string r.body] ty (0, 0)
/-- The violation of a row against the one ahead of it. -/
def fv (kd : Int) (a r : Rw.RwM) : Vl := ⟨kd, r.frm, r.index, -1, a.index, ⟨#[]⟩, false, ⟨#[]⟩, false, ⟨#[]⟩, a.til, r.frm⟩
def fol (a r : Rw.RwM) : List Vl := if ¬ r.time = a.time then [] else if r.seq = a.seq then [fv 9 a r] else if r.frm < a.til then [fv 10 a r] else []
theorem fol_len (a r : Rw.RwM) : (fol a r).length ≤ 1 := by
  unfold fol
  split
  · simp
  · split
    · simp
    · split <;> simp
/-- What a walk keeps of a row. -/
def lsR (r : Rw.RwM) : Rw.RwM := ⟨0, r.time, r.seq, r.index, 0, r.til, ⟨#[]⟩⟩
def q0R : Rw.RwM := ⟨0, -1, 0, 0, 0, 0, ⟨#[]⟩⟩
theorem fol_ls (a r : Rw.RwM) : fol (lsR a) r = fol a r := rfl
theorem comp_ls (a r : Rw.RwM) : Rw.comp 2 (lsR a) r = Rw.comp 2 a r := rfl
def codW (q r : Rw.RwM) : Int := if ¬ Rw.rightR r then 90 else if ¬ r.kind = 3 then 90 else if 0 ≤ Rw.comp 2 q r then 161 else 0
def lisW (q r : Rw.RwM) : List Vl := if codW q r = 0 then fol q r else []
def nxW (q r : Rw.RwM) : Rw.RwM := if codW q r = 0 then lsR r else q
theorem lisW_len (q r : Rw.RwM) : (lisW q r).length ≤ 1 := by
  unfold lisW
  split
  · exact fol_len q r
  · simp

section
set_option maxRecDepth 100000
set_option maxHeartbeats 1600000
theorem follow17 (a r : Rw.RwM) (w : World) : Calls Try.prog 40 #[Rw.rowV a, Rw.rowV r] w fun e w' => ∃ v, e = .returned v ∧ OwnL w.heap.size w' v (fol a r) ∧ Kept w w' := by
  unfold Rw.rowV
  have HN : Hid (∀ kd, OwnL w.heap.size (((w.alloc (rwO a 42)).alloc (rwO r 42)).alloc (vlO (fv kd a r))) (.slice (some ⟨w.heap.size + 1 + 1, 0, none⟩) 1 1) [fv kd a r]) := fun kd => by
    have h := own_one (heap_new ((w.alloc (rwO a 42)).alloc (rwO r 42)) (vlO (fv kd a r)))
    rw [World.size_alloc, World.size_alloc] at h
    exact row_base h (by omega)
  have HK : Hid (∀ o, Kept w (((w.alloc (rwO a 42)).alloc (rwO r 42)).alloc o)) := fun o => (((Same.refl _ w).alloc _).alloc _).alloc _
  by_cases h1 : r.time = a.time
  · have d1 : (r.time != a.time) = false := by simp [h1]
    by_cases h2 : r.seq = a.seq
    · have d2 : (r.seq == a.seq) = true := by simp [h2]
      have ef : fol a r = [fv 9 a r] := by unfold fol; rw [if_neg (by simpa using h1), if_pos h2]
      rw [ef]
      clear ef h1 h2
      go_enter Try.func40, Try.ntmps40
      go_wp2_with fail
      go_ret
      exact ⟨_, rfl, HN.out 9, HK.out _⟩
    · have d2 : (r.seq == a.seq) = false := by simp [h2]
      by_cases h3 : r.frm < a.til
      · have d3 : decide (r.frm < a.til) = true := decide_eq_true h3
        have ef : fol a r = [fv 10 a r] := by unfold fol; rw [if_neg (by simpa using h1), if_neg h2, if_pos h3]
        rw [ef]
        clear ef h1 h2
        go_enter Try.func40, Try.ntmps40
        go_wp2_with fail
        go_ret
        exact ⟨_, rfl, HN.out 10, HK.out _⟩
      · have d3 : decide (r.frm < a.til) = false := decide_eq_false h3
        have ef : fol a r = [] := by unfold fol; rw [if_neg (by simpa using h1), if_neg h2, if_neg h3]
        rw [ef]
        clear ef h1 h2
        go_enter Try.func40, Try.ntmps40
        go_wp2_with fail
        go_ret
        exact ⟨_, rfl, OwnL.nil _ _, ((Same.refl _ w).alloc _).alloc _⟩
  · have d1 : (r.time != a.time) = true := by simpa using h1
    have ef : fol a r = [] := by unfold fol; rw [if_pos h1]
    rw [ef]
    clear ef h1
    go_enter Try.func40, Try.ntmps40
    go_wp2_with fail
    go_ret
    exact ⟨_, rfl, OwnL.nil _ _, ((Same.refl _ w).alloc _).alloc _⟩
theorem pair17 (a r : Rw.RwM) (w : World) : Calls Try.prog 23 #[Rw.rowV a, Rw.rowV r] w fun e w' => ∃ v, e = .returned (.tuple #[v, .bool (!(fol a r).isEmpty)]) ∧ OwnL w.heap.size w' v (fol a r) ∧ Kept w w' := by
  unfold Rw.rowV
  have HN : Hid (∀ kd, OwnL w.heap.size (((w.alloc (rwO a 43)).alloc (rwO r 43)).alloc (vlO (fv kd a r))) (.slice (some ⟨w.heap.size + 1 + 1, 0, none⟩) 1 1) [fv kd a r]) := fun kd => by
    have h := own_one (heap_new ((w.alloc (rwO a 43)).alloc (rwO r 43)) (vlO (fv kd a r)))
    rw [World.size_alloc, World.size_alloc] at h
    exact row_base h (by omega)
  have HK : Hid (∀ o, Kept w (((w.alloc (rwO a 43)).alloc (rwO r 43)).alloc o)) := fun o => (((Same.refl _ w).alloc _).alloc _).alloc _
  by_cases h1 : r.time = a.time
  · have d1 : (a.time == r.time) = true := by simp [h1]
    by_cases h2 : r.seq = a.seq
    · have d2 : (a.seq == r.seq) = true := by simp [h2]
      have d3 : (a.seq != r.seq) = false := by simp [h2]
      have ef : fol a r = [fv 9 a r] := by unfold fol; rw [if_neg (by simpa using h1), if_pos h2]
      rw [ef]
      clear ef h1 h2
      go_enter Try.func23, Try.ntmps23
      go_wp2_with fail
      go_ret2
      exact ⟨_, rfl, HN.out 9, HK.out _⟩
    · have d2 : (a.seq == r.seq) = false := by rw [beq_eq_false_iff_ne]; exact fun e => h2 e.symm
      have d2' : (a.seq != r.seq) = true := by rw [bne_iff_ne]; exact fun e => h2 e.symm
      by_cases h3 : r.frm < a.til
      · have d3 : decide (r.frm < a.til) = true := decide_eq_true h3
        have ef : fol a r = [fv 10 a r] := by unfold fol; rw [if_neg (by simpa using h1), if_neg h2, if_pos h3]
        rw [ef]
        clear ef h1 h2
        go_enter Try.func23, Try.ntmps23
        go_wp2_with fail
        go_ret2
        exact ⟨_, rfl, HN.out 10, HK.out _⟩
      · have d3 : decide (r.frm < a.til) = false := decide_eq_false h3
        have ef : fol a r = [] := by unfold fol; rw [if_neg (by simpa using h1), if_neg h2, if_neg h3]
        rw [ef]
        clear ef h1 h2
        go_enter Try.func23, Try.ntmps23
        go_wp2_with fail
        go_ret2
        exact ⟨_, rfl, OwnL.nil _ _, ((Same.refl _ w).alloc _).alloc _⟩
  · have d1 : (a.time == r.time) = false := by rw [beq_eq_false_iff_ne]; exact fun e => h1 e.symm
    have ef : fol a r = [] := by unfold fol; rw [if_pos h1]
    rw [ef]
    clear ef h1
    go_enter Try.func23, Try.ntmps23
    go_wp2_with fail
    go_ret2
    exact ⟨_, rfl, OwnL.nil _ _, ((Same.refl _ w).alloc _).alloc _⟩
theorem new17 (w : World) : Calls Try.prog 19 #[] w fun e w' => ∃ b, e = .returned (.pointer (some ⟨b, 0, none⟩)) ∧ w.heap.size ≤ b ∧ w'.heap[b]? = some (rwO q0R 81) ∧ Kept w w' := by
  go_enter Try.func19, Try.ntmps19
  go_wp2_with fail
  go_ret
  exact ⟨_, rfl, Nat.le_refl _, heap_new _ _, (Same.refl _ w).alloc _⟩
end
end Go.Proofs.Ytbjmdpfoeeadeaa.Sw
