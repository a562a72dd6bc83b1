/- What is proved: what the rows' lists of variables give: the library's table of powers lies as its text lays it; a world that holds all three tables. -/
import Derived.Test.YtlldgibpajbabaaDoorNoAn
import Derived.Test.YtlldgibpajbabaaDoorCards
import Derived.Test.YtlldgibpajbabaaDoorTie
import Derived.ProofKit
import Derived.OpenShut
import Derived.Deep.DeepHandedRow
import Derived.Lib.LaidTab
import Derived.Lib.TrailingZeros
import Derived.Stop.LaidErr
namespace Go.Proofs.YtlldgibpajbabaaDoor
open Go.ChangeShapes Go.WideShapes Go.ChangeAt Go.RowKit

theorem own21 : ownKnob Tryd.prog.godebug = none := by kernel_rfl
theorem gPow : Tryd.prog.globalNamed "internal/strconv.uint64pow10" = some 1 := by kernel_rfl
theorem gPowType : (Tryd.prog.globals[1]?).map (·.type) = some 122 := by kernel_rfl
theorem cellsPow : Tryd.prog.cellsOf 122 = 20 := by kernel_rfl
theorem cellsU64 : Tryd.prog.cellsOf 109 = 1 := by kernel_rfl
/-- What a row's list gives: the table of powers. -/
theorem table21 {W : World} (h : laidMet Tryd.prog [("math/bits.deBruijn32tab", Rows.laid_math_bits_deBruijn32tab), ("math/bits.deBruijn64tab", Rows.laid_math_bits_deBruijn64tab), ("internal/strconv.uint64pow10", Rows.laid_internal_strconv_uint64pow10)] W) : Tab W.heap.size W :=
  Lib.tabBelow_of_tabIs (Lib.tabIs_of_head (rest := []) (n := 20) gPow gPowType Tryd.underlying122 Tryd.underlying109 cellsU64 cellsPow h.tail.tail)
def layB (cs : Array Value) : Obj → Obj
  | .cells _ t frozen => .cells cs t frozen
  | o => o
/-- A world for the witness: the tables hold what their initialisers lay. -/
noncomputable def laidWorld (os : Os) : World :=
  { World.holding Tryd.prog os ⟨#[], #[], []⟩ with heap := (((World.holding Tryd.prog os ⟨#[], #[], []⟩).heap.modify 1 (layB (Lib.pow10Tab.map (Value.int .u64)).toArray)).modify 2 (layB (Lib.deBruijn32tab.map fun (n : Nat) => Value.int .u8 (n : Int)).toArray)).modify 3 (layB (Lib.deBruijn64tab.map fun (n : Nat) => Value.int .u8 (n : Int)).toArray) }
end Go.Proofs.YtlldgibpajbabaaDoor
