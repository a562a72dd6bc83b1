/- What is proved: the reader's op: one operation read; condition: the text's length. -/
import Derived.Test.YtfhaiklfbnfdlaaDoorNoRd
namespace Go.Proofs.YtfhaiklfbnfdlaaDoor
open Go.RowKit

def bts (l : List UInt8) : ByteArray := ⟨l.toArray⟩
def word1 (s : Rs) : List UInt8 := (wrdO s).getD []
/-- One operation read. -/
def opR (s : Rs) : OpM × Rs :=
  let s1 := mst [32] s
  if hasp [114, 40] s1 = true then
    let s2 := cutp [114, 40] s1
    let s4 := mst [41, 61] (wrdS s2)
    if hasp [45] s4 = true then (⟨1, bts (word1 s2), false, bts []⟩, cutp [45] s4)
    else (⟨1, bts (word1 s2), true, bts (word1 (cutp [45] s4))⟩, wrdS (cutp [45] s4))
  else
    let s2 := cutp [114, 40] s1
    if hasp [119, 40] s2 = true then
      let s3 := cutp [119, 40] s2
      let s4 := mst [41, 61] (wrdS s3)
      (⟨2, bts (word1 s3), true, bts (word1 s4)⟩, wrdS s4)
    else
      let s3 := mst [100, 40] (cutp [119, 40] s2)
      (⟨3, bts (word1 s3), false, bts []⟩, mst [41] (wrdS s3))
theorem Rs.ok.op {s : Rs} (h : s.ok) : (opR s).2.ok := by
  unfold opR
  dsimp only
  split
  · split
    · exact (((h.mst _).cut _).wrd.mst _).cut _
    · exact ((((h.mst _).cut _).wrd.mst _).cut _).wrd
  · split
    · exact ((((h.mst _).cut _).cut _).wrd.mst _).wrd
    · exact ((((h.mst _).cut _).cut _).mst _).wrd.mst _

theorem Mv.box {rb b : Nat} {w w' : World} {o : Obj} (h : Mv rb w w') (hb : w.heap[b]? = some o) (hn : b ≠ rb) : w'.heap[b]? = some o := (h.block b (lt_of_heap hb) hn).trans hb
theorem Mv.get {rb : Nat} {w W W' : World} (h : Mv rb w W) (k : Mv rb W W') : Mv rb w W' := h.trans' k
/-- A box of one's own was written. -/
theorem Mv.own {rb b : Nat} {w W W' : World} (h : Mv rb w W) (k : Same (fun i => i = b) W W') (hb : w.heap.size ≤ b) : Mv rb w W' := Same.trans h k (fun i hi e => by omega)
end Go.Proofs.YtfhaiklfbnfdlaaDoor
