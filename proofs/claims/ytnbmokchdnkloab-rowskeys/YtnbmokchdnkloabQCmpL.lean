/- What is proved: the laws RowsCompare and RowsChain answer true, for every order and all rows; no condition. -/
import Derived.Test.YtnbmokchdnkloabQAnch
namespace Go.Proofs.Ytnbmokchdnkloab
open Go.RowKit

def r4 : RwM := ⟨0, 0, 4, 0, 0, 0, .empty⟩
def r9 : RwM := ⟨0, 0, 9, 0, 0, 0, .empty⟩
theorem comp_49 : comp 2 r4 r9 = -1 := by decide
theorem bef_cases (order : Int) (a b : RwM) : (comp order a b = -1 ∧ bef order a b = true ∧ bef order b a = false) ∨ (comp order a b = 0 ∧ bef order a b = false ∧ bef order b a = false) ∨ (comp order a b = 1 ∧ bef order a b = false ∧ bef order b a = true) := by
  unfold bef
  rw [comp_swap order a b]
  rcases comp_cases order a b with h | h | h <;> rw [h] <;> decide
/-- Two rows in boxes. -/
structure Bx2 (w W : World) (h : Nat) (a b : RwM) : Prop where
  kept : Kept w W
  one : W.heap[h]? = some (.cells #[.int .i64 a.kind, .int .i64 a.time, .int .i64 a.seq, .int .i64 a.index, .int .i64 a.frm, .int .i64 a.til, .string a.body] 23 (0, 0))
  two : W.heap[h + 1]? = some (.cells #[.int .i64 b.kind, .int .i64 b.time, .int .i64 b.seq, .int .i64 b.index, .int .i64 b.frm, .int .i64 b.til, .string b.body] 23 (0, 0))
theorem Bx2.on {w W W' : World} {h : Nat} {a b : RwM} (m : Bx2 w W h a b) (k : Kept W W') : Bx2 w W' h a b :=
  ⟨m.kept.trans' k, (k.block _ (lt_of_heap m.one) (fun e => e)).trans m.one, (k.block _ (lt_of_heap m.two) (fun e => e)).trans m.two⟩
theorem bx2_new (w : World) (a b : RwM) : Bx2 w ((w.alloc (.cells #[.int .i64 a.kind, .int .i64 a.time, .int .i64 a.seq, .int .i64 a.index, .int .i64 a.frm, .int .i64 a.til, .string a.body] 23 (0, 0))).alloc (.cells #[.int .i64 b.kind, .int .i64 b.time, .int .i64 b.seq, .int .i64 b.index, .int .i64 b.frm, .int .i64 b.til, .string b.body] 23 (0, 0))) w.heap.size a b :=
  ⟨((Same.refl _ w).alloc _).alloc _, (heap_old _ _ (by rw [World.size_alloc]; exact Nat.lt_succ_self _)).trans (heap_new w _), two_new9 w _ _⟩
theorem Bx2.cells {w W : World} {h : Nat} {a b : RwM} (m : Bx2 w W h a b) (W' : World) (k : Kept W W') : Kept W W' ∧ W'.cell? ⟨h, 0, none⟩ = some (.int .i64 a.kind) ∧ W'.cell? ⟨h, 1, none⟩ = some (.int .i64 a.time) ∧ W'.cell? ⟨h, 2, none⟩ = some (.int .i64 a.seq) ∧ W'.cell? ⟨h, 3, none⟩ = some (.int .i64 a.index) ∧ W'.cell? ⟨h, 4, none⟩ = some (.int .i64 a.frm) ∧ W'.cell? ⟨h, 5, none⟩ = some (.int .i64 a.til) ∧ W'.cell? ⟨h, 6, none⟩ = some (.string a.body) ∧ W'.cell? ⟨h + 1, 0, none⟩ = some (.int .i64 b.kind) ∧ W'.cell? ⟨h + 1, 1, none⟩ = some (.int .i64 b.time) ∧ W'.cell? ⟨h + 1, 2, none⟩ = some (.int .i64 b.seq) ∧ W'.cell? ⟨h + 1, 3, none⟩ = some (.int .i64 b.index) ∧ W'.cell? ⟨h + 1, 4, none⟩ = some (.int .i64 b.frm) ∧ W'.cell? ⟨h + 1, 5, none⟩ = some (.int .i64 b.til) ∧ W'.cell? ⟨h + 1, 6, none⟩ = some (.string b.body) := by
  obtain ⟨⟨c0, c1, c2, c3, c4, c5, c6⟩, -⟩ := row_obj (m.on k).one
  obtain ⟨⟨e0, e1, e2, e3, e4, e5, e6⟩, -⟩ := row_obj (m.on k).two
  exact ⟨k, c0, c1, c2, c3, c4, c5, c6, e0, e1, e2, e3, e4, e5, e6⟩
theorem plain_f (k t s i f u : Int) (y : ByteArray) (w : World) : Calls Try.prog 7 #[.agg #[.int .i64 k, .int .i64 t, .int .i64 s, .int .i64 i, .int .i64 f, .int .i64 u, .string y]] w fun e w' => e = .returned (.agg #[.int .i64 k, .int .i64 t, .int .i64 s, .int .i64 i, .int .i64 f, .int .i64 u, .string y]) ∧ Kept w w' := plain_any ⟨k, t, s, i, f, u, y⟩ w
end Go.Proofs.Ytnbmokchdnkloab
