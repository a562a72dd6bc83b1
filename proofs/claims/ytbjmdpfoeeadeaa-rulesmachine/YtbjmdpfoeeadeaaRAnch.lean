/- What is proved: plain facts on one transaction and its operations in memory; no condition. -/
import Derived.Test.YtbjmdpfoeeadeaaREnc
import Derived.Test.YtbjmdpfoeeadeaaREnc
namespace Go.Proofs.Ytbjmdpfoeeadeaa
open Go.RowKit

def oA : OpM := ⟨2, ⟨#[97]⟩, true, ⟨#[120]⟩⟩
def tA : TxM := ⟨1, 0, 5, 9, 5, 9, 1, [oA]⟩
def bA : List Int := [1, 0, 5, 9, 5, 9, 1, 1, 3, 1, 97, 1, 120]
theorem right_A : Right tA := ⟨by decide, by decide, fun o ho => by
  simp only [tA, List.mem_cons, List.not_mem_nil, or_false] at ho
  subst ho
  decide⟩
theorem body_A : body tA = bA := by
  simp [body, heads, forms, tA, oA, encOs, encO, encT, tagO, nums, form_small, bA, ByteArray.size]
theorem byts_A : Byts bA := by rw [← body_A]; exact byts_body tA
theorem dec_A : decode bA = .ok tA := by rw [← body_A]; exact dec_body right_A
theorem ops_new (w : World) (o : OpM) : OpsAt (w.alloc (.cells #[.int .i64 o.kind, .string o.key, .bool o.found, .string o.value] 79 (0, 0))) (some ⟨w.heap.size, 0, none⟩) [o] := fun i x hx => by
  cases i with
  | zero =>
    simp only [List.getElem?_cons_zero, Option.some.injEq] at hx
    subst hx
    exact ⟨w.heap.size, 0, rfl, by simp [World.size_alloc], (cell_of (heap_new w _) 0).trans rfl, (cell_of (heap_new w _) 1).trans rfl, (cell_of (heap_new w _) 2).trans rfl, (cell_of (heap_new w _) 3).trans rfl⟩
  | succ i => simp at hx
theorem OwnO.txa {base : Nat} {w : World} {t : TxM} {a : Option Addr} {cap : Nat} (o : OwnO base w (.slice a t.ops.length cap) t.ops) : TxA w t (txV t (.slice a t.ops.length cap)) := by
  obtain ⟨a', cap', e, h, -⟩ := OwnO.ops o
  simp only [Value.slice.injEq, true_and] at e
  obtain ⟨rfl, rfl⟩ := e
  exact ⟨a, cap, rfl, h⟩
end Go.Proofs.Ytbjmdpfoeeadeaa
