/- What is proved: what the rows' lists of variables give: the library's table of powers lies as its text lays it; a world that holds all three tables; a config as an argument. -/
import Derived.Test.YtolooejcgdknnaaDoorNoAi
import Derived.Test.YtolooejcgdknnaaDoorCfC
import Derived.Test.YtolooejcgdknnaaDoorCards
import Derived.Test.YtolooejcgdknnaaDoorTie
import Derived.ProofKit
import Derived.OpenShut
import Derived.Deep.DeepHandedRow
import Derived.Lib.LaidTab
import Derived.Lib.TrailingZeros
import Derived.Stop.LaidErr
namespace Go.Proofs.YtolooejcgdknnaaDoor
open Go.ChangeShapes Go.WideShapes Go.ChangeAt Go.RowKit

theorem own23 : ownKnob Tryd.prog.godebug = none := by kernel_rfl
theorem Tryd.laid5 : laidOutB Tryd.prog = true := by kernel_rfl
theorem gPow23 : Tryd.prog.globalNamed "internal/strconv.uint64pow10" = some 0 := by kernel_rfl
theorem gPowType23 : (Tryd.prog.globals[0]?).map (·.type) = some 80 := by kernel_rfl
theorem cellsPow23 : Tryd.prog.cellsOf 80 = 20 := by kernel_rfl
theorem cellsU23 : Tryd.prog.cellsOf 66 = 1 := by kernel_rfl
theorem Tryd.cellsCfg : Tryd.prog.cellsOf 23 = 5 := by kernel_rfl
theorem Tryd.cellsI23 : Tryd.prog.cellsOf 3 = 1 := by kernel_rfl
abbrev laid23 : List (String × DataW Unit) := [("math/bits.deBruijn32tab", Rows.laid_math_bits_deBruijn32tab), ("math/bits.deBruijn64tab", Rows.laid_math_bits_deBruijn64tab), ("internal/strconv.uint64pow10", Rows.laid_internal_strconv_uint64pow10)]
theorem table23 {W : World} (h : laidMet Tryd.prog laid23 W) : Tab W.heap.size W :=
  Lib.tabBelow_of_tabIs (Lib.tabIs_of_head (rest := []) (n := 20) gPow23 gPowType23 Tryd.underlying80 Tryd.underlying66 cellsU23 cellsPow23 h.tail.tail)
def layD (cs : Array Value) : Obj → Obj
  | .cells _ t frozen => .cells cs t frozen
  | o => o
/-- A world for the witness: the tables hold what their initialisers lay. -/
noncomputable def laidWorld23 (os : Os) : World :=
  { World.holding Tryd.prog os ⟨#[], #[], []⟩ with heap := (((World.holding Tryd.prog os ⟨#[], #[], []⟩).heap.modify 0 (layD (Lib.pow10Tab.map (Value.int .u64)).toArray)).modify 2 (layD (Lib.deBruijn32tab.map fun (n : Nat) => Value.int .u8 (n : Int)).toArray)).modify 3 (layD (Lib.deBruijn64tab.map fun (n : Nat) => Value.int .u8 (n : Int)).toArray) }
theorem cfg_of {H : Type} {enc : TypeId × Value → H} {W : World} {fuel : Nat} {cl : List Value} {d : DataW H} {p : List MemPlace} (hsz : cl.length = 5)
    (h : DataW.trod enc Tryd.prog W 0 (fun _ => true) true fuel 23 cl = some (d, p)) : ∃ x : Cg, cl = [.int .i64 x.a, .int .i64 x.b, .int .i64 x.c, .int .i64 x.d, .int .i64 x.e] := by
  obtain ⟨xs, k, hk, hxy, _, hxl, hf⟩ := DataW.trod_struct Tryd.underlying23 h
  match xs, hxl, cl, hsz with
  | [y0, y1, y2, y3, y4], _, [v0, v1, v2, v3, v4], _ =>
    have g0 := hf 0 _ rfl
    have g1 := hf 1 _ rfl
    have g2 := hf 2 _ rfl
    have g3 := hf 3 _ rfl
    have g4 := hf 4 _ rfl
    simp [Tryd.cellsI23] at g0 g1 g2 g3 g4
    obtain ⟨n0, e0, _⟩ := DataW.trod_int Tryd.underlying3 g0
    obtain ⟨n1, e1, _⟩ := DataW.trod_int Tryd.underlying3 g1
    obtain ⟨n2, e2, _⟩ := DataW.trod_int Tryd.underlying3 g2
    obtain ⟨n3, e3, _⟩ := DataW.trod_int Tryd.underlying3 g3
    obtain ⟨n4, e4, _⟩ := DataW.trod_int Tryd.underlying3 g4
    simp only [List.cons.injEq, and_true] at e0 e1 e2 e3 e4
    subst e0 e1 e2 e3 e4
    exact ⟨⟨n0, n1, n2, n3, n4⟩, rfl⟩
theorem open_cfg {H : Type} {enc : TypeId × Value → H} {W : World} {fuel : Nat} {cs : Array Value} {d : DataW H} {p : List MemPlace} (hsz : cs.size = Tryd.prog.cellsOf 23)
    (h : DataW.trod enc Tryd.prog W 0 (fun _ => true) true fuel 23 cs.toList = some (d, p)) : ∃ x : Cg, Value.agg cs = .agg #[.int .i64 x.a, .int .i64 x.b, .int .i64 x.c, .int .i64 x.d, .int .i64 x.e] := by
  rw [Tryd.cellsCfg] at hsz
  obtain ⟨cl⟩ := cs
  obtain ⟨x, hx⟩ := cfg_of (by simpa using hsz) h
  simp only at hx
  subst hx
  exact ⟨x, rfl⟩
end Go.Proofs.YtolooejcgdknnaaDoor
