/- What is proved: plain facts on an argument that is a list of bytes; no condition. -/
import Derived.Test.YtbjmdpfoeeadeaaRAnch
namespace Go.Proofs.Ytbjmdpfoeeadeaa
open Go.RowKit

/-- What is known of an argument that is a list of bytes. -/
structure ArgB (w : World) (oa : Option Addr) (c : Nat) (l : List Int) : Prop where
  data : BytesAt w oa l
  nil : oa = none → l.length = 0 ∧ c = 0
  cap : l.length ≤ c
  byts : Byts l
  len : l.length ≤ reachBytes
theorem ArgB.le {w : World} {oa : Option Addr} {c : Nat} {l : List Int} (h : ArgB w oa c l) : l.length ≤ 140737488351232 := by
  have := h.len
  unfold reachBytes at this
  omega
theorem ArgB.on {w w' : World} {oa : Option Addr} {c : Nat} {l : List Int} (h : ArgB w oa c l) (k : Kept w w') : ArgB w' oa c l := ⟨h.data.kept k (fun _ _ h => h), h.nil, h.cap, h.byts, h.len⟩
theorem bytes_take {w : World} {oa : Option Addr} {l : List Int} (h : BytesAt w oa l) (n : Nat) : BytesAt w oa (l.take n) := fun j x hx => by
  have hj := (List.getElem?_eq_some_iff.1 hx).1
  simp only [List.length_take] at hj
  rw [List.getElem?_take_of_lt (by omega)] at hx
  exact h j x hx
end Go.Proofs.Ytbjmdpfoeeadeaa
