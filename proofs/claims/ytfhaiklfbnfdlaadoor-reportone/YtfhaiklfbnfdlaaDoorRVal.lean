/- What is proved: Valid tells what the document says of a transaction that lies in memory, right or not; no condition. -/
import Derived.Test.YtfhaiklfbnfdlaaDoorRTxn
namespace Go.Proofs.YtfhaiklfbnfdlaaDoor
open Go.RowKit

theorem isEmpty_size (s : ByteArray) : s.toList.isEmpty = decide (s.size = 0) := by
  rw [Lib.toList_data, Bool.eq_iff_iff, decide_eq_true_iff, List.isEmpty_iff, ← List.length_eq_zero_iff, Array.length_toList]
  rfl
/-- What IndexFunc answers. -/
def FoundO (p : OpM → Bool) (L : List OpM) (r : Ending) : Prop :=
  (∃ (i : Nat) (e : OpM), r = .returned (.int .i64 i) ∧ L[i]? = some e ∧ p e = true) ∨ (r = .returned (.int .i64 (-1)) ∧ ∀ e ∈ L, p e = false)
theorem none_takeO {p : OpM → Bool} {L : List OpM} {j : Nat} {e : OpM} (he : L[j]? = some e) (h : ∀ x ∈ L.take j, p x = false) (hp : p e = false) : ∀ x ∈ L.take (j + 1), p x = false := by
  intro x hx
  rw [List.take_add_one, he] at hx
  rcases List.mem_append.1 hx with hx | hx
  · exact h x hx
  · simp at hx
    subst hx
    exact hp
def wrongO (o : OpM) : Bool := !decide (rightO o)
/-- The value v is the transaction t in w. -/
def TxA (w : World) (t : TxM) (v : Value) : Prop := ∃ a c, v = txV t (.slice a t.ops.length c) ∧ OpsAt w a t.ops
theorem TxA.on {w w' : World} {t : TxM} {v : Value} (h : TxA w t v) (k : Kept w w') : TxA w' t v := by
  obtain ⟨a, c, e, ho⟩ := h
  exact ⟨a, c, e, ho.on k⟩
end Go.Proofs.YtfhaiklfbnfdlaaDoor
