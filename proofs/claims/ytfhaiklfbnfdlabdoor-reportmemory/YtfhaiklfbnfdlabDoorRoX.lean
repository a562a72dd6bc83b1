/- What is proved: the document's Same of two outcomes in memory answers whether they are alike; condition: the lists' lengths. -/
import Derived.Test.YtfhaiklfbnfdlabDoorRoM
namespace Go.Proofs.YtfhaiklfbnfdlabDoor
open Go.RowKit

theorem vl_alike (x : Vi.Vl) (w : World) : (binOp .neq 25 (Vi.vlV x) (Vi.vlV x)).run Tryd.prog w = .ok (.bool false) w := by
  obtain ⟨a0, a1, a2, a3, a4, a5, a6, a7, a8, a9, a10, a11⟩ := x
  unfold Vi.vlV
  go_simp
theorem bytes_of_list {a b : ByteArray} (e : a.toList = b.toList) : a = b := by
  apply ByteArray.ext
  rw [ByteArray.toList_eq, ByteArray.toList_eq] at e
  exact Array.toList_inj.1 e
theorem vl_differ (x y : Vi.Vl) (h : x ≠ y) (w : World) : (binOp .neq 25 (Vi.vlV x) (Vi.vlV y)).run Tryd.prog w = .ok (.bool true) w := by
  obtain ⟨a0, a1, a2, a3, a4, a5, a6, a7, a8, a9, a10, a11⟩ := x
  obtain ⟨b0, b1, b2, b3, b4, b5, b6, b7, b8, b9, b10, b11⟩ := y
  unfold Vi.vlV
  go_simp
  intro e0 e1 e2 e3 e4 e5 e6 e7 e8 e9 e10 e11
  exact h (by rw [e0, e1, e2, e3, e4, bytes_of_list e5, e6, bytes_of_list e7, e8, bytes_of_list e9, e10, e11])
theorem ne_int {x y : Int} (h : x ≠ y) : (x == y) = false ∧ (x != y) = true := by
  have := beq_eq_false_iff_ne.2 h
  exact ⟨this, by rw [bne, this]; rfl⟩
end Go.Proofs.YtfhaiklfbnfdlabDoor
