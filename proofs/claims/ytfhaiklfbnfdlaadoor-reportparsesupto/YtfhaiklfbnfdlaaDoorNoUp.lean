/- What is proved: the document's upTo and begins; condition: the text's length. -/
import Derived.Test.YtfhaiklfbnfdlaaDoorNoRr
namespace Go.Proofs.YtfhaiklfbnfdlaaDoor
open Go.RowKit

/-- The place of the first byte c from a place on, or the text's length. -/
def upT (l : List UInt8) (k : Nat) (c : UInt8) : Nat := k + lead (fun b => b != c) (l.drop k)
theorem upT_le (l : List UInt8) {k : Nat} (c : UInt8) (h : k ≤ l.length) : k ≤ upT l k c ∧ upT l k c ≤ l.length := by
  have := lead_le (fun b => b != c) (l.drop k)
  rw [List.length_drop] at this
  unfold upT
  omega
theorem upT_end {l : List UInt8} {k : Nat} {c : UInt8} (h : ∀ b, l[k]? = some b → b = c) : upT l k c = k := by
  unfold upT
  rw [lead_eq (k := 0) (fun i hi => absurd hi (by omega)) (fun b hb => by rw [List.getElem?_drop] at hb; simp at hb; simp [h b hb])]
  rfl
theorem upT_more {l : List UInt8} {k : Nat} {c b : UInt8} (h : l[k]? = some b) (hb : b ≠ c) : upT l k c = upT l (k + 1) c := by
  obtain ⟨h1, h2⟩ := List.getElem?_eq_some_iff.1 h
  unfold upT
  rw [List.drop_eq_getElem_cons h1, h2]
  unfold lead
  rw [List.takeWhile_cons]
  simp [hb]
  omega
theorem mid_tx (l : List UInt8) (a b : Nat) (h : a ≤ b) (hb : b ≤ l.length) (w : World) : (Instr.slice 9 (tx l) (some (.int .i64 (a : Int))) (some (.int .i64 (b : Int))) none).run Tryd.prog w = .ok (tx ((l.drop a).take (b - a))) w := by
  rw [run_slice_string w 9 _ .i64 .i64 _ _ Tryd.underlying9 (by omega) (by omega) (by rw [sz]; omega)]
  congr 2
  apply ByteArray.ext
  simp [ByteArray.data_extract]
theorem has_iff (l p : List UInt8) : Lib.hasPrefix l p = (decide (p.length ≤ l.length) && decide (l.take p.length = p)) := by
  unfold Lib.hasPrefix
  by_cases h : p <+: l
  · rw [List.isPrefixOf_iff_prefix.2 h]
    obtain ⟨r, rfl⟩ := h
    simp
  · have h1 : p.isPrefixOf l = false := by
      cases e : p.isPrefixOf l with
      | false => rfl
      | true => exact (h (List.isPrefixOf_iff_prefix.1 e)).elim
    rw [h1]
    by_cases h2 : l.take p.length = p
    · exact (h (by rw [← h2]; exact List.take_prefix _ _)).elim
    · rw [decide_eq_false h2, Bool.and_false]
end Go.Proofs.YtfhaiklfbnfdlaaDoor
