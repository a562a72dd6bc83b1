/- What is proved: the library's contract on sorting structs by a comparison fits this program's text; no condition. -/
import Derived.Shelf.SlSortCmp.NoneTotal
import Derived.Ground.SlsfProg
import Derived.Test.YtnfkjblhnpnaeaaDBase
namespace Go.Proofs.Ytnfkjblhnpnaeaa
open Go.RowKit Go.Sort Go.Shelf

def Try.insN_ren : Go.Shelf.Ren := ⟨fun | 20 => 45 | n => n, fun | 24 => 30 | 22 => 28 | 3 => 3 | 25 => 40 | 4 => 4 | 0 => 0 | n => n, fun | n => n⟩
theorem Try.insN : Go.Proofs.SlLaysF0.n20 Try.prog Try.insN_ren := {
  mixed := by kernel_rfl
  f20 := ⟨Try.f45.name, by decide, Try.func45.trans (congrArg some (by kernel_rfl))⟩
  t0 := Try.underlying0
  a0 := Try.isAgg0
  z0 := Try.sizeOf0
  v0 := Try.zeroValue0
  t3 := Try.underlying3
  a3 := Try.isAgg3
  z3 := Try.sizeOf3
  v3 := Try.zeroValue3
  t4 := Try.underlying4
  a4 := Try.isAgg4
  z4 := Try.sizeOf4
  v4 := Try.zeroValue4
  t22 := Try.underlying28
  a22 := Try.isAgg28
  z22 := Try.sizeOf28
  v22 := Try.zeroValue28
  t25 := Try.underlying40
  a25 := Try.isAgg40
  z25 := Try.sizeOf40
  v25 := Try.zeroValue40 }
end Go.Proofs.Ytnfkjblhnpnaeaa
