/- What is proved: what the rows' lists of variables give: the library's table lies as its text lays it; a world that holds it. -/
import Derived.Test.YtbhihmkgimdjpaaDoorGhZ
import Derived.Test.YtbhihmkgimdjpaaDoorCards
import Derived.Test.YtbhihmkgimdjpaaDoorTie
import Derived.ProofKit
import Derived.OpenShut
import Derived.Deep.DeepHandedRow
import Derived.Lib.LaidTab
import Derived.Lib.TrailingZeros
import Derived.Stop.LaidErr
import Derived.ChangeMaps5
import Derived.Deep.Slices
import Derived.SizedLaws
namespace Go.Proofs.YtbhihmkgimdjpaaDoor
open Go.ChangeShapes Go.WideShapes Go.ChangeAt Go.RowKit

theorem own19 : ownKnob Tryd.prog.godebug = none := by kernel_rfl
theorem Tryd.laid5 : laidOutB Tryd.prog = true := by kernel_rfl
theorem gDb19 : Tryd.prog.globalNamed "math/bits.deBruijn64tab" = some 0 := by kernel_rfl
theorem gDbType19 : (Tryd.prog.globals[0]?).map (·.type) = some 99 := by kernel_rfl
theorem cellsArr19 : Tryd.prog.cellsOf 99 = 64 := by kernel_rfl
theorem cellsU8 : Tryd.prog.cellsOf 5 = 1 := by kernel_rfl
theorem tabG19 {W : World} (h : laidMet Tryd.prog [("math/bits.deBruijn64tab", Rows.laid_math_bits_deBruijn64tab)] W) : TabG W := by
  have h1 : Lib.TabIs Tryd.prog W "math/bits.deBruijn64tab" .u8 (Lib.deBruijn64tab.map fun (n : Nat) => (n : Int)) := Lib.tabIs_of_head (rest := []) (n := 64) gDb19 gDbType19 Tryd.underlying99 Tryd.underlying5 cellsU8 cellsArr19 h
  unfold Lib.TabIs World.var? at h1
  rw [gDb19] at h1
  simp only [Option.bind_some] at h1
  split at h1
  · rename_i cs t fz hb
    simp only [Option.some.injEq] at h1
    subst h1
    refine ⟨Nat.lt_of_le_of_lt (Nat.zero_le _) (lt_of_heap hb), fun j hj => ?_⟩
    have hl : Lib.deBruijn64tab.length = 64 := rfl
    have : W.cell? ⟨0, j, none⟩ = ((Lib.deBruijn64tab.map fun (n : Nat) => (n : Int)).map fun z => Value.int .u8 z).toArray[j]? := by simp [World.cell?, hb]
    rw [this]
    simp only [List.map_map, List.getElem?_toArray, List.getElem?_map]
    rw [List.getElem?_eq_getElem (by omega), List.getD_eq_getElem?_getD, List.getElem?_eq_getElem (by omega)]
    rfl
  · cases h1
def layD (cs : Array Value) : Obj → Obj
  | .cells _ t frozen => .cells cs t frozen
  | o => o
/-- A world for the witness: the table holds what its initialiser lays. -/
noncomputable def laidWorld19 (os : Os) : World :=
  { World.holding Tryd.prog os ⟨#[], #[], []⟩ with heap := (World.holding Tryd.prog os ⟨#[], #[], []⟩).heap.modify 0 (layD (Lib.deBruijn64tab.map fun (n : Nat) => Value.int .u8 (n : Int)).toArray) }
end Go.Proofs.YtbhihmkgimdjpaaDoor
