/- What is proved: the anchor of the laws of layer 17 answers true and leaves all that was there as it was; no condition. -/
import Derived.Test.YtbjmdpfoeeadeaaJShp
namespace Go.Proofs.Ytbjmdpfoeeadeaa.Sw
open Go.RowKit

def tZ : TxM := ⟨0, 0, 9, 9, 12, 11, 0, []⟩
theorem cod_Z : codS 4 tZ 2 = 0 := by decide
theorem lis_Z : lisS 4 tZ 2 = [sv 4 1 9 9 9, sv 4 2 9 12 11, sv 4 3 9 12 9] := by
  rw [lisS, if_pos cod_Z]
  rfl
set_option maxRecDepth 100000 in
set_option maxHeartbeats 1600000 in
theorem anchor17 (w : World) : Calls Try.prog 9 #[] w fun e w' => e = .returned (.bool true) ∧ Kept w w' := by
  have HS : Hid _ := Shape17 4 tZ 2 none 0 w (fun W k => ⟨none, 0, rfl, fun i o h => by simp [tZ] at h⟩)
  rw [cod_Z, lis_Z] at HS
  have HS2 : Hid (Calls Try.prog 10 #[.int .i64 4, .agg #[.int .i64 0, .int .i64 0, .int .i64 9, .int .i64 9, .int .i64 12, .int .i64 11, .int .i64 0, .slice none 0 0], .int .i64 2] w fun e w' => ∃ v, e = .returned (.tuple #[v, .int .i64 0]) ∧ OwnL w.heap.size w' v [sv 4 1 9 9 9, sv 4 2 9 12 11, sv 4 3 9 12 9] ∧ Kept w w') := HS.out
  clear HS
  go_enter Try.func9, Try.ntmps9
  go_wp2_with fail
  refine Calls.mono HS2.out ?_
  rintro e W ⟨v, rfl, o, k⟩
  obtain ⟨a, c, ev, -⟩ := row_shape o
  subst ev
  have K : Hid _ := k
  obtain ⟨b, rfl, hb, p0, -⟩ := own_at (j := 0) o rfl
  obtain ⟨b1, e1, -, q0, -⟩ := own_at (j := 1) o rfl
  obtain ⟨b2, e2, -, r0, r1, r2, r3, r4, r5, r6, r7, r8, r9, r10, r11⟩ := own_at (j := 2) o rfl
  cases e1
  cases e2
  have p0' : W.cell? ⟨b, 0, none⟩ = some (.int .i64 1) := p0
  have q0' : W.cell? ⟨b, 12, none⟩ = some (.int .i64 2) := q0
  have r0' : W.cell? ⟨b, 24, none⟩ = some (.int .i64 3) := r0
  have r1' : W.cell? ⟨b, 25, none⟩ = some (.int .i64 9) := r1
  have r2' : W.cell? ⟨b, 26, none⟩ = some (.int .i64 4) := r2
  have r3' : W.cell? ⟨b, 27, none⟩ = some (.int .i64 (-1)) := r3
  have r4' : W.cell? ⟨b, 28, none⟩ = some (.int .i64 (-1)) := r4
  have r5' : W.cell? ⟨b, 29, none⟩ = some (.string ⟨#[]⟩) := r5
  have r6' : W.cell? ⟨b, 30, none⟩ = some (.bool false) := r6
  have r7' : W.cell? ⟨b, 31, none⟩ = some (.string ⟨#[]⟩) := r7
  have r8' : W.cell? ⟨b, 32, none⟩ = some (.bool false) := r8
  have r9' : W.cell? ⟨b, 33, none⟩ = some (.string ⟨#[]⟩) := r9
  have r10' : W.cell? ⟨b, 34, none⟩ = some (.int .i64 12) := r10
  have r11' : W.cell? ⟨b, 35, none⟩ = some (.int .i64 9) := r11
  clear o k p0 q0 r0 r1 r2 r3 r4 r5 r6 r7 r8 r9 r10 r11
  simp only [List.length_cons, List.length_nil, Nat.zero_add, Nat.reduceAdd]
  go_wp2_with fail
  go_ret
  exact ⟨rfl, by (repeat (first | exact K.out | apply Same.drew | apply Same.drewN)); done⟩
end Go.Proofs.Ytbjmdpfoeeadeaa.Sw
