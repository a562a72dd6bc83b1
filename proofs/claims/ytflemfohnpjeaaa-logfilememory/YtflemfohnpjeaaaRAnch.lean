/- What is proved: the anchor of the laws answers true and leaves all that was there as it was; no condition. -/
import Derived.Test.YtflemfohnpjeaaaRSame
import Derived.Test.YtflemfohnpjeaaaRDec
import Derived.Test.YtflemfohnpjeaaaREnc
namespace Go.Proofs.Ytflemfohnpjeaaa
open Go.RowKit

def oA : OpM := ⟨2, ⟨#[97]⟩, true, ⟨#[120]⟩⟩
def tA : TxM := ⟨1, 0, 5, 9, 5, 9, 1, [oA]⟩
def bA : List Int := [1, 0, 5, 9, 5, 9, 1, 1, 3, 1, 97, 1, 120]
theorem right_A : Right tA := ⟨by decide, by decide, fun o ho => by
  simp only [tA, List.mem_cons, List.not_mem_nil, or_false] at ho
  subst ho
  decide⟩
theorem body_A : body tA = bA := by
  simp [body, heads, forms, tA, oA, encOs, encO, encT, tagO, nums, form_small, bA, ByteArray.size]
theorem byts_A : Byts bA := by rw [← body_A]; exact byts_body tA
theorem dec_A : decode bA = .ok tA := by rw [← body_A]; exact dec_body right_A
theorem ops_new (w : World) (o : OpM) : OpsAt (w.alloc (.cells #[.int .i64 o.kind, .string o.key, .bool o.found, .string o.value] 42 (0, 0))) (some ⟨w.heap.size, 0, none⟩) [o] := fun i x hx => by
  cases i with
  | zero =>
    simp only [List.getElem?_cons_zero, Option.some.injEq] at hx
    subst hx
    exact ⟨w.heap.size, 0, rfl, by simp [World.size_alloc], (cell_of (heap_new w _) 0).trans rfl, (cell_of (heap_new w _) 1).trans rfl, (cell_of (heap_new w _) 2).trans rfl, (cell_of (heap_new w _) 3).trans rfl⟩
  | succ i => simp at hx
/-- What Decode answers of a list that is read as t. -/
theorem decode_good {w : World} {oa : Option Addr} {c : Nat} {l : List Int} (hl : BytesAt w oa l) (hnil : oa = none → l.length = 0 ∧ c = 0) (hb : l.length ≤ 140737488355328) (hby : Byts l) {t : TxM} (h : decode l = .ok t) :
    Calls Try.prog 49 #[.slice oa l.length c] w fun e w' => ∃ a cap, e = .returned (.tuple #[txV t (.slice a t.ops.length cap), .int .i64 0, .int .i64 0]) ∧ OwnO w.heap.size w' (.slice a t.ops.length cap) t.ops ∧ Kept w w' := by
  refine Calls.mono (decode_any w oa c l hl hnil hb hby) ?_
  rintro e w' ⟨k, m⟩
  rw [h] at m
  obtain ⟨v, rfl, o⟩ := m
  obtain ⟨a, cap, rfl, -⟩ := OwnO.ops o
  exact ⟨a, cap, rfl, o, k⟩
theorem decode_bad {w : World} {oa : Option Addr} {c : Nat} {l : List Int} (hl : BytesAt w oa l) (hnil : oa = none → l.length = 0 ∧ c = 0) (hb : l.length ≤ 140737488355328) (hby : Byts l) {p : Nat} {z : Int} (h : decode l = .error (p, z)) :
    Calls Try.prog 49 #[.slice oa l.length c] w fun e w' => e = .returned (.tuple #[txV t0 (.slice none 0 0), .int .i64 (p : Int), .int .i64 z]) ∧ Kept w w' := by
  refine Calls.mono (decode_any w oa c l hl hnil hb hby) ?_
  rintro e w' ⟨k, m⟩
  rw [h] at m
  exact ⟨m, k⟩
theorem OwnO.txa {base : Nat} {w : World} {t : TxM} {a : Option Addr} {cap : Nat} (o : OwnO base w (.slice a t.ops.length cap) t.ops) : TxA w t (txV t (.slice a t.ops.length cap)) := by
  obtain ⟨a', cap', e, h, -⟩ := OwnO.ops o
  simp only [Value.slice.injEq, true_and] at e
  obtain ⟨rfl, rfl⟩ := e
  exact ⟨a, cap, rfl, h⟩
end Go.Proofs.Ytflemfohnpjeaaa
