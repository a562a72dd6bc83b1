/- What is proved: AppendText, and the document's Form and Text, at every argument within the bounds that a machine's memory sets. -/
import Derived.Test.YtfhaiklfbnfdlaaDoorWApp
import Derived.Lib.AppendStr
import Derived.Laws.BytesArg
namespace Go.Proofs.YtfhaiklfbnfdlaaDoor
open Go.RowKit

/-- The bytes of a string. -/
def nums (s : ByteArray) : List Int := s.data.toList.map fun b => (b.toNat : Int)
theorem nums_length (s : ByteArray) : (nums s).length = s.size := by
  rw [nums, List.length_map, Array.length_toList]
  rfl
theorem strCells_nums (s : ByteArray) : Lib.strCells s = byt (nums s) := by simp [Lib.strCells, byt, nums]
theorem nums_byts (s : ByteArray) : Byts (nums s) := fun x hx => by
  obtain ⟨b, _, rfl⟩ := List.mem_map.1 hx
  have := b.toNat_lt
  omega
theorem strOf_nums (s : ByteArray) : strOfNums (nums s) = s := by
  obtain ⟨d⟩ := s
  unfold strOfNums nums
  congr 1
  apply Array.ext'
  rw [List.toList_toArray, List.map_map]
  have e : ((fun n : Int => UInt8.ofNat n.toNat) ∘ fun b : UInt8 => (b.toNat : Int)) = id := by
    funext b
    simp
  rw [e, List.map_id]
theorem nums_get (s : ByteArray) {i : Nat} (h : i < s.size) : (nums s)[i]? = some ((s[i]'h).toNat : Int) := by
  have h' : i < s.data.size := h
  rw [nums, List.getElem?_map, Array.getElem?_toList, Array.getElem?_eq_getElem h']
  rfl

end Go.Proofs.YtfhaiklfbnfdlaaDoor
