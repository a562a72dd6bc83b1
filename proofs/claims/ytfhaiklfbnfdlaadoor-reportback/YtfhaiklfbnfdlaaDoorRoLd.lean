/- What is proved: what the rows' lists of variables give: the library's table of powers and the words of the kinds lie as their texts lay them; a world that holds all five tables. -/
import Derived.Test.YtfhaiklfbnfdlaaDoorRoA
import Derived.Test.YtfhaiklfbnfdlaaDoorNoAi
import Derived.Test.YtfhaiklfbnfdlaaDoorCards
import Derived.Test.YtfhaiklfbnfdlaaDoorTie
import Derived.ProofKit
import Derived.OpenShut
import Derived.Deep.DeepHandedRow
import Derived.Lib.LaidTab
import Derived.Lib.TrailingZeros
import Derived.Stop.LaidErr
namespace Go.Proofs.YtfhaiklfbnfdlaaDoor
open Go.ChangeShapes Go.WideShapes Go.ChangeAt Go.RowKit

theorem own22 : ownKnob Tryd.prog.godebug = none := by kernel_rfl
theorem gPow22 : Tryd.prog.globalNamed "internal/strconv.uint64pow10" = some 3 := by kernel_rfl
theorem gPowType22 : (Tryd.prog.globals[3]?).map (·.type) = some 118 := by kernel_rfl
theorem cellsPow22 : Tryd.prog.cellsOf 118 = 20 := by kernel_rfl
theorem cellsU22 : Tryd.prog.cellsOf 105 = 1 := by kernel_rfl
theorem gOw22 : Tryd.prog.globalNamed "proctor/report.outcomeWords" = some 0 := by kernel_rfl
theorem gOwType22 : (Tryd.prog.globals[0]?).map (·.type) = some 69 := by kernel_rfl
theorem cellsOw22 : Tryd.prog.cellsOf 69 = 9 := by kernel_rfl
theorem gVw22 : Tryd.prog.globalNamed "proctor/report.violWords" = some 1 := by kernel_rfl
theorem gVwType22 : (Tryd.prog.globals[1]?).map (·.type) = some 83 := by kernel_rfl
theorem cellsVw22 : Tryd.prog.cellsOf 83 = 10 := by kernel_rfl
theorem cellsStr22 : Tryd.prog.cellsOf 9 = 1 := by kernel_rfl
/-- A table of words as a row lists it. -/
def strData {H : Type} (ss : List (List UInt8)) : DataW H := .agg (ss.map fun s => .lit (.string s))
theorem cells_of_strs {H : Type} {enc : TypeId × Value → H} {P : Program} {w : World} {base : Nat} {sp : Nat → Bool} {held : Bool} {fuel : Nat} {t e : TypeId} {n : Nat} {cs : List Value} {ss : List (List UInt8)} {p : List MemPlace}
    (ht : P.underlying t = some (.array n e)) (he : P.underlying e = some .string) (hce : P.cellsOf e = 1) (hct : P.cellsOf t = n)
    (h : DataW.trod enc P w base sp held fuel t cs = some (strData ss, p)) : cs = ss.map tx := by
  cases fuel with
  | zero => simp [DataW.trod] at h
  | succ fuel =>
    simp only [DataW.trod, ht, hce, hct, Nat.mul_one] at h
    split at h
    · rename_i hl
      obtain ⟨xs, hm, hx⟩ := Option.map_eq_some_iff.1 h
      have hxs : xs.map (·.1) = ss.map fun s => (DataW.lit (.string s) : DataW H) := by
        have := congrArg Prod.fst hx
        simpa [strData] using this
      have hxl : xs.length = n := by simpa using Lib.mapM_length hm
      have hzl : ss.length = n := by
        have := congrArg List.length hxs
        simp at this
        omega
      apply List.ext_getElem?
      intro i
      by_cases hi : i < n
      · obtain ⟨b, hb, hf⟩ := Lib.mapM_at hm i i (by simp [hi])
        obtain ⟨s, hc, rfl, _⟩ := DataW.trod_string he hf
        have h1 : cs[i]? = some (.string s) := by
          have := congrArg (·[0]?) hc
          simpa [List.getElem?_take, List.getElem?_drop] using this
        have h2 : (xs.map (·.1))[i]? = some (DataW.lit (.string s.data.toList) : DataW H) := by simp [hb]
        rw [hxs] at h2
        simp only [List.getElem?_map, Option.map_eq_some_iff, DataW.lit.injEq, Lit.string.injEq] at h2
        obtain ⟨z', hz', e⟩ := h2
        subst e
        rw [h1, List.getElem?_map, hz']
        rfl
      · rw [List.getElem?_eq_none (by omega), List.getElem?_eq_none (by simp; omega)]
    · cases h
theorem strs_of_head {P : Program} {W : World} {name : String} {ss : List (List UInt8)} {rest : List (String × DataW Unit)} {g : Nat} {t e : TypeId} {n : Nat}
    (hg : P.globalNamed name = some g) (hty : (P.globals[g]?).map (·.type) = some t) (ht : P.underlying t = some (.array n e)) (he : P.underlying e = some .string) (hce : P.cellsOf e = 1) (hct : P.cellsOf t = n)
    (h : laidMet P ((name, strData ss) :: rest) W) : ∀ i s, ss[i]? = some s → W.cell? ⟨g, i, none⟩ = some (tx s) := by
  obtain ⟨ps, ⟨g', t', cs, fuel, p, q, hg', ht', hvar, hd, _, _⟩, _⟩ := h
  obtain rfl := Option.some.inj (hg.symm.trans hg')
  obtain rfl := Option.some.inj (hty.symm.trans ht')
  intro i s hs
  have e := cells_of_strs ht he hce hct hd
  have := World.var?_cell hg hvar i
  rw [this]
  have e2 : cs[i]? = cs.toList[i]? := by simp
  rw [e2, e, List.getElem?_map, hs]
  rfl
abbrev laid22 : List (String × DataW Unit) := [("math/bits.deBruijn32tab", Rows.laid_math_bits_deBruijn32tab), ("math/bits.deBruijn64tab", Rows.laid_math_bits_deBruijn64tab), ("internal/strconv.uint64pow10", Rows.laid_internal_strconv_uint64pow10), ("proctor/report.outcomeWords", Rows.laid_proctor_report_outcomeWords), ("proctor/report.violWords", Rows.laid_proctor_report_violWords)]
theorem table22 {W : World} (h : laidMet Tryd.prog laid22 W) : Tab W.heap.size W :=
  Lib.tabBelow_of_tabIs (Lib.tabIs_of_head (n := 20) gPow22 gPowType22 Tryd.underlying118 Tryd.underlying105 cellsU22 cellsPow22 h.tail.tail)
theorem wds22 {W : World} (h : laidMet Tryd.prog laid22 W) : Wds W :=
  ⟨strs_of_head (n := 9) gOw22 gOwType22 Tryd.underlying69 Tryd.underlying9 cellsStr22 cellsOw22 (show laidMet Tryd.prog (("proctor/report.outcomeWords", strData oWords) :: _) W from h.tail.tail.tail),
    strs_of_head (n := 10) gVw22 gVwType22 Tryd.underlying83 Tryd.underlying9 cellsStr22 cellsVw22 (show laidMet Tryd.prog (("proctor/report.violWords", strData vWords) :: _) W from h.tail.tail.tail.tail)⟩
def layC (cs : Array Value) : Obj → Obj
  | .cells _ t frozen => .cells cs t frozen
  | o => o
/-- A world for the witness: the tables hold what their initialisers lay. -/
noncomputable def laidWorld22 (os : Os) : World :=
  { World.holding Tryd.prog os ⟨#[], #[], []⟩ with heap := (((((World.holding Tryd.prog os ⟨#[], #[], []⟩).heap.modify 3 (layC (Lib.pow10Tab.map (Value.int .u64)).toArray)).modify 4 (layC (Lib.deBruijn32tab.map fun (n : Nat) => Value.int .u8 (n : Int)).toArray)).modify 5 (layC (Lib.deBruijn64tab.map fun (n : Nat) => Value.int .u8 (n : Int)).toArray)).modify 0 (layC (oWords.map tx).toArray)).modify 1 (layC (vWords.map tx).toArray) }
end Go.Proofs.YtfhaiklfbnfdlaaDoor
