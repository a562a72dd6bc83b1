/- What is proved: the small calls of a cursor that lies in memory: Offset, Left, Fault, fail, pass; no condition. -/
import Derived.Test.YtfhaiklfbnfdlaaDoorWFirst
namespace Go.Proofs.YtfhaiklfbnfdlaaDoor
open Go.RowKit

section
variable {w : World} {cb : Nat} {a : Option Addr} {cap : Nat} {l : List Int} {pl : Nat} {ft : Int}
/-- The next n bytes as a slice of the cursor's own. -/
def PassR (a : Option Addr) (cap : Nat) (l : List Int) (pl n : Nat) (v : Value) (w' : World) : Prop :=
  ∃ a', v = .slice a' ((l.drop pl).take n).length (cap - pl) ∧ BytesAt w' a' ((l.drop pl).take n) ∧ (a' = none → ((l.drop pl).take n).length = 0 ∧ cap - pl = 0) ∧ (a = none → a' = none) ∧ (∀ g, a = some ⟨g, 0, none⟩ → ∃ off, a' = some ⟨g, off, none⟩)
theorem bytes_part {w : World} {g : Nat} {l : List Int} (h : BytesAt w (some ⟨g, 0, none⟩) l) (i n : Nat) : BytesAt w (some ⟨g, i, none⟩) ((l.drop i).take n) := fun j x hx => by
  have hj := (List.getElem?_eq_some_iff.1 hx).1
  simp only [List.length_take, List.length_drop] at hj
  rw [List.getElem?_take_of_lt (by omega), List.getElem?_drop] at hx
  obtain ⟨b, off, e, hb, hc⟩ := h _ _ hx
  cases e
  exact ⟨g, i, rfl, hb, by rw [Nat.zero_add] at hc; exact hc⟩
theorem length_part (l : List Int) {i n : Nat} (h : i + n ≤ l.length) : ((l.drop i).take n).length = n := by simp; omega
end
end Go.Proofs.YtfhaiklfbnfdlaaDoor
