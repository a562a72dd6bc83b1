/- What is proved: plain facts on an argument that is a list of bytes; no condition. -/
import Derived.Test.YtflemfohnpjeaaaRAnch
namespace Go.Proofs.Ytflemfohnpjeaaa
open Go.RowKit

/-- What is known of an argument that is a list of bytes. -/
structure ArgB (w : World) (oa : Option Addr) (c : Nat) (l : List Int) : Prop where
  data : BytesAt w oa l
  nil : oa = none → l.length = 0 ∧ c = 0
  cap : l.length ≤ c
  byts : Byts l
  len : l.length ≤ reachBytes
theorem ArgB.le {w : World} {oa : Option Addr} {c : Nat} {l : List Int} (h : ArgB w oa c l) : l.length ≤ 140737488351232 := by
  have := h.len
  unfold reachBytes at this
  omega
theorem ArgB.on {w w' : World} {oa : Option Addr} {c : Nat} {l : List Int} (h : ArgB w oa c l) (k : Kept w w') : ArgB w' oa c l := ⟨h.data.kept k (fun _ _ h => h), h.nil, h.cap, h.byts, h.len⟩
theorem bytes_take {w : World} {oa : Option Addr} {l : List Int} (h : BytesAt w oa l) (n : Nat) : BytesAt w oa (l.take n) := fun j x hx => by
  have hj := (List.getElem?_eq_some_iff.1 hx).1
  simp only [List.length_take] at hj
  rw [List.getElem?_take_of_lt (by omega)] at hx
  exact h j x hx
/-- Decode over a row of one's own. -/
theorem decode_own_ok {base : Nat} {w : World} {v : Value} {l : List Int} (o : OwnB base w v l) (hby : Byts l) (hb : l.length ≤ 140737488355328) {t : TxM} (h : decode l = .ok t) : Calls Try.prog 49 #[v] w fun e w' => ∃ a cap, e = .returned (.tuple #[txV t (.slice a t.ops.length cap), .int .i64 0, .int .i64 0]) ∧ OwnO w.heap.size w' (.slice a t.ops.length cap) t.ops ∧ Kept w w' := by
  obtain ⟨a, cap, rfl, hd, -, hn, -, -⟩ := OwnB.bytes o
  exact decode_good hd hn hb hby h
theorem decode_own_no {base : Nat} {w : World} {v : Value} {l : List Int} (o : OwnB base w v l) (hby : Byts l) (hb : l.length ≤ 140737488355328) {p : Nat} {z : Int} (h : decode l = .error (p, z)) : Calls Try.prog 49 #[v] w fun e w' => e = .returned (.tuple #[txV t0 (.slice none 0 0), .int .i64 (p : Int), .int .i64 z]) ∧ Kept w w' := by
  obtain ⟨a, cap, rfl, hd, -, hn, -, -⟩ := OwnB.bytes o
  exact decode_bad hd hn hb hby h
/-- The place and the error of a list of bytes: both fit. -/
theorem dec_fits {l : List Int} {p : Nat} {z : Int} (hl : Byts l) (h : decode l = .error (p, z)) : p ≤ l.length ∧ z ≠ 0 := by
  obtain ⟨a, b, -⟩ := dec_err hl h
  exact ⟨a, by omega⟩
end Go.Proofs.Ytflemfohnpjeaaa
