/- What is proved: tables as their texts lay them; an argument that is an outcome, or a list of violations, as the walks ask it; no condition -/
import Derived.Test.YtfhaiklfbnfdlaaDoorRoA
import Derived.Test.YtfhaiklfbnfdlaaDoorNoAi
import Derived.Test.YtfhaiklfbnfdlaaDoorCards
import Derived.Test.YtfhaiklfbnfdlaaDoorTie
import Derived.ProofKit
import Derived.OpenShut
import Derived.Deep.DeepHandedRow
import Derived.Lib.LaidTab
import Derived.Lib.TrailingZeros
import Derived.Stop.LaidErr
import Derived.Test.YtfhaiklfbnfdlaaDoorRoM
import Derived.Deep.Slices
import Derived.Deep.SlicePairs
import Derived.SizedLaws
namespace Go.Proofs.YtfhaiklfbnfdlaaDoor
open Go.ChangeShapes Go.WideShapes Go.ChangeAt Go.RowKit

theorem own22 : ownKnob Tryd.prog.godebug = none := by kernel_rfl
theorem gPow22 : Tryd.prog.globalNamed "internal/strconv.uint64pow10" = some 3 := by kernel_rfl
theorem gPowType22 : (Tryd.prog.globals[3]?).map (·.type) = some 118 := by kernel_rfl
theorem cellsPow22 : Tryd.prog.cellsOf 118 = 20 := by kernel_rfl
theorem cellsU22 : Tryd.prog.cellsOf 105 = 1 := by kernel_rfl
theorem gOw22 : Tryd.prog.globalNamed "proctor/report.outcomeWords" = some 0 := by kernel_rfl
theorem gOwType22 : (Tryd.prog.globals[0]?).map (·.type) = some 69 := by kernel_rfl
theorem cellsOw22 : Tryd.prog.cellsOf 69 = 9 := by kernel_rfl
theorem gVw22 : Tryd.prog.globalNamed "proctor/report.violWords" = some 1 := by kernel_rfl
theorem gVwType22 : (Tryd.prog.globals[1]?).map (·.type) = some 83 := by kernel_rfl
theorem cellsVw22 : Tryd.prog.cellsOf 83 = 10 := by kernel_rfl
theorem cellsStr22 : Tryd.prog.cellsOf 9 = 1 := by kernel_rfl
/-- A table of words as a row lists it. -/
def strData {H : Type} (ss : List (List UInt8)) : DataW H := .agg (ss.map fun s => .lit (.string s))
theorem cells_of_strs {H : Type} {enc : TypeId × Value → H} {P : Program} {w : World} {base : Nat} {sp : Nat → Bool} {held : Bool} {fuel : Nat} {t e : TypeId} {n : Nat} {cs : List Value} {ss : List (List UInt8)} {p : List MemPlace}
    (ht : P.underlying t = some (.array n e)) (he : P.underlying e = some .string) (hce : P.cellsOf e = 1) (hct : P.cellsOf t = n)
    (h : DataW.trod enc P w base sp held fuel t cs = some (strData ss, p)) : cs = ss.map tx := by
  cases fuel with
  | zero => simp [DataW.trod] at h
  | succ fuel =>
    simp only [DataW.trod, ht, hce, hct, Nat.mul_one] at h
    split at h
    · rename_i hl
      obtain ⟨xs, hm, hx⟩ := Option.map_eq_some_iff.1 h
      have hxs : xs.map (·.1) = ss.map fun s => (DataW.lit (.string s) : DataW H) := by
        have := congrArg Prod.fst hx
        simpa [strData] using this
      have hxl : xs.length = n := by simpa using Lib.mapM_length hm
      have hzl : ss.length = n := by
        have := congrArg List.length hxs
        simp at this
        omega
      apply List.ext_getElem?
      intro i
      by_cases hi : i < n
      · obtain ⟨b, hb, hf⟩ := Lib.mapM_at hm i i (by simp [hi])
        obtain ⟨s, hc, rfl, _⟩ := DataW.trod_string he hf
        have h1 : cs[i]? = some (.string s) := by
          have := congrArg (·[0]?) hc
          simpa [List.getElem?_take, List.getElem?_drop] using this
        have h2 : (xs.map (·.1))[i]? = some (DataW.lit (.string s.data.toList) : DataW H) := by simp [hb]
        rw [hxs] at h2
        simp only [List.getElem?_map, Option.map_eq_some_iff, DataW.lit.injEq, Lit.string.injEq] at h2
        obtain ⟨z', hz', e⟩ := h2
        subst e
        rw [h1, List.getElem?_map, hz']
        rfl
      · rw [List.getElem?_eq_none (by omega), List.getElem?_eq_none (by simp; omega)]
    · cases h
theorem strs_of_head {P : Program} {W : World} {name : String} {ss : List (List UInt8)} {rest : List (String × DataW Unit)} {g : Nat} {t e : TypeId} {n : Nat}
    (hg : P.globalNamed name = some g) (hty : (P.globals[g]?).map (·.type) = some t) (ht : P.underlying t = some (.array n e)) (he : P.underlying e = some .string) (hce : P.cellsOf e = 1) (hct : P.cellsOf t = n)
    (h : laidMet P ((name, strData ss) :: rest) W) : ∀ i s, ss[i]? = some s → W.cell? ⟨g, i, none⟩ = some (tx s) := by
  obtain ⟨ps, ⟨g', t', cs, fuel, p, q, hg', ht', hvar, hd, _, _⟩, _⟩ := h
  obtain rfl := Option.some.inj (hg.symm.trans hg')
  obtain rfl := Option.some.inj (hty.symm.trans ht')
  intro i s hs
  have e := cells_of_strs ht he hce hct hd
  have := World.var?_cell hg hvar i
  rw [this]
  have e2 : cs[i]? = cs.toList[i]? := by simp
  rw [e2, e, List.getElem?_map, hs]
  rfl
abbrev laid22 : List (String × DataW Unit) := [("math/bits.deBruijn32tab", Rows.laid_math_bits_deBruijn32tab), ("math/bits.deBruijn64tab", Rows.laid_math_bits_deBruijn64tab), ("internal/strconv.uint64pow10", Rows.laid_internal_strconv_uint64pow10), ("proctor/report.outcomeWords", Rows.laid_proctor_report_outcomeWords), ("proctor/report.violWords", Rows.laid_proctor_report_violWords)]
theorem table22 {W : World} (h : laidMet Tryd.prog laid22 W) : Tab W.heap.size W :=
  Lib.tabBelow_of_tabIs (Lib.tabIs_of_head (n := 20) gPow22 gPowType22 Tryd.underlying118 Tryd.underlying105 cellsU22 cellsPow22 h.tail.tail)
theorem wds22 {W : World} (h : laidMet Tryd.prog laid22 W) : Wds W :=
  ⟨strs_of_head (n := 9) gOw22 gOwType22 Tryd.underlying69 Tryd.underlying9 cellsStr22 cellsOw22 (show laidMet Tryd.prog (("proctor/report.outcomeWords", strData oWords) :: _) W from h.tail.tail.tail),
    strs_of_head (n := 10) gVw22 gVwType22 Tryd.underlying83 Tryd.underlying9 cellsStr22 cellsVw22 (show laidMet Tryd.prog (("proctor/report.violWords", strData vWords) :: _) W from h.tail.tail.tail.tail)⟩
def layC (cs : Array Value) : Obj → Obj
  | .cells _ t frozen => .cells cs t frozen
  | o => o
/-- A world for the witness: the tables hold what their initialisers lay. -/
noncomputable def laidWorld22 (os : Os) : World :=
  { World.holding Tryd.prog os ⟨#[], #[], []⟩ with heap := (((((World.holding Tryd.prog os ⟨#[], #[], []⟩).heap.modify 3 (layC (Lib.pow10Tab.map (Value.int .u64)).toArray)).modify 4 (layC (Lib.deBruijn32tab.map fun (n : Nat) => Value.int .u8 (n : Int)).toArray)).modify 5 (layC (Lib.deBruijn64tab.map fun (n : Nat) => Value.int .u8 (n : Int)).toArray)).modify 0 (layC (oWords.map tx).toArray)).modify 1 (layC (vWords.map tx).toArray) }
end Go.Proofs.YtfhaiklfbnfdlaaDoor

namespace Go.Proofs.YtfhaiklfbnfdlaaDoor
open Go.ChangeShapes Go.WideShapes Go.ChangeAt Go.RowKit

theorem Tryd.laid5 : laidOutB Tryd.prog = true := by kernel_rfl
theorem listOf22 (n : Nat) {α : Type} (f : Nat → α) : ((List.range n).map f).length = n ∧ ∀ i x, ((List.range n).map f)[i]? = some x → i < n ∧ x = f i := by
  refine ⟨by simp, fun i x h => ?_⟩
  have hi := (List.getElem?_eq_some_iff.1 h).1
  simp at hi
  rw [List.getElem?_map, List.getElem?_range hi] at h
  simp at h
  exact ⟨hi, h.symm⟩
theorem Tryd.cells22I : Tryd.prog.cellsOf 3 = 1 := by kernel_rfl
theorem Tryd.cells22B : Tryd.prog.cellsOf 4 = 1 := by kernel_rfl
theorem Tryd.cells22S : Tryd.prog.cellsOf 9 = 1 := by kernel_rfl
theorem Tryd.cells22V : Tryd.prog.cellsOf 41 = 12 := by kernel_rfl
theorem Tryd.bytes22V : Tryd.prog.bytesOf 41 = 120 := by kernel_rfl
set_option maxRecDepth 100000 in
theorem violOf22 {H : Type} {enc : TypeId × Value → H} {W : World} {fuel : Nat} {cl : List Value} {d : DataW H} {p : List MemPlace} (hsz : cl.length = 12)
    (h : DataW.trod enc Tryd.prog W 0 (fun _ => true) true fuel 41 cl = some (d, p)) : ∃ r : Vi.Vl, cl = Vi.vl1 r := by
  obtain ⟨xs, k, hk, hxy, _, hxl, hf⟩ := DataW.trod_struct Tryd.underlying41 h
  match xs, hxl, cl, hsz with
  | [y0, y1, y2, y3, y4, y5, y6, y7, y8, y9, y10, y11], _, [v0, v1, v2, v3, v4, v5, v6, v7, v8, v9, v10, v11], _ =>
    have g0 := hf 0 _ rfl
    have g1 := hf 1 _ rfl
    have g2 := hf 2 _ rfl
    have g3 := hf 3 _ rfl
    have g4 := hf 4 _ rfl
    have g5 := hf 5 _ rfl
    have g6 := hf 6 _ rfl
    have g7 := hf 7 _ rfl
    have g8 := hf 8 _ rfl
    have g9 := hf 9 _ rfl
    have g10 := hf 10 _ rfl
    have g11 := hf 11 _ rfl
    simp [Tryd.cells22I, Tryd.cells22S, Tryd.cells22B] at g0 g1 g2 g3 g4 g5 g6 g7 g8 g9 g10 g11
    obtain ⟨n0, e0, _⟩ := DataW.trod_int Tryd.underlying3 g0
    obtain ⟨n1, e1, _⟩ := DataW.trod_int Tryd.underlying3 g1
    obtain ⟨n2, e2, _⟩ := DataW.trod_int Tryd.underlying3 g2
    obtain ⟨n3, e3, _⟩ := DataW.trod_int Tryd.underlying3 g3
    obtain ⟨n4, e4, _⟩ := DataW.trod_int Tryd.underlying3 g4
    obtain ⟨n5, e5, _⟩ := DataW.trod_string Tryd.underlying9 g5
    obtain ⟨n6, e6, _⟩ := DataW.trod_bool Tryd.underlying4 g6
    obtain ⟨n7, e7, _⟩ := DataW.trod_string Tryd.underlying9 g7
    obtain ⟨n8, e8, _⟩ := DataW.trod_bool Tryd.underlying4 g8
    obtain ⟨n9, e9, _⟩ := DataW.trod_string Tryd.underlying9 g9
    obtain ⟨n10, e10, _⟩ := DataW.trod_int Tryd.underlying3 g10
    obtain ⟨n11, e11, _⟩ := DataW.trod_int Tryd.underlying3 g11
    simp only [List.cons.injEq, and_true] at e0 e1 e2 e3 e4 e5 e6 e7 e8 e9 e10 e11
    subst e0 e1 e2 e3 e4 e5 e6 e7 e8 e9 e10 e11
    exact ⟨⟨n0, n1, n2, n3, n4, n5, n6, n7, n8, n9, n10, n11⟩, rfl⟩
set_option maxRecDepth 100000 in
theorem openViols22 {H : Type} {enc : TypeId × Value → H} {W : World} {fuel : Nat} {sa : Option Addr} {len cap : Nat} {d : DataW H} {p : List MemPlace}
    (h : DataW.trod enc Tryd.prog W 0 (fun _ => true) true fuel 23 [.slice sa len cap] = some (d, p)) : ∃ l : List Vi.Vl, len = l.length ∧ Vi.At Vi.vl1 12 W sa l ∧ (sa = none → l.length = 0 ∧ cap = 0) ∧ ((∀ n ∈ d.weights Tryd.prog 23, n ≤ reachBytes) → l.length * 120 ≤ reachBytes) := by
  rcases Go.Deep.open_slice Tryd.underlying23 h with ⟨hcs, hd⟩ | ⟨a, len', cap', m, n, D, Pl, hcs, _, hl, hm, hmm, hd, hx⟩
  · simp only [List.cons.injEq, Value.slice.injEq, and_true] at hcs
    obtain ⟨rfl, rfl, rfl⟩ := hcs
    exact ⟨[], rfl, Vi.At.nil _ _ _ _, fun _ => ⟨rfl, rfl⟩, fun _ => by simp⟩
  · simp only [List.cons.injEq, Value.slice.injEq, and_true] at hcs
    obtain ⟨rfl, rfl, rfl⟩ := hcs
    simp only [if_true] at hmm
    simp only [Prod.mk.injEq] at hd
    have each : ∀ i, i < len → ∃ r : Vi.Vl, ∀ c v, (Vi.vl1 r)[c]? = some v → W.cell? (a.add (i * 12 + c)) = some v := by
      intro i hi
      obtain ⟨cs', h1, h2⟩ := hx i (by omega)
      rw [Tryd.cells22V] at h1
      obtain ⟨_, hlen, hcell⟩ := World.cells?_some h1
      obtain ⟨r, rfl⟩ := violOf22 hlen h2
      refine ⟨r, fun c v hv => ?_⟩
      have hc : c < 12 := by have := (List.getElem?_eq_some_iff.1 hv).1; rwa [hlen] at this
      have c0 := hcell c hc
      rw [Go.Deep.add_add] at c0
      rw [c0]
      exact hv
    obtain ⟨q, hq⟩ := Go.Deep.choose_lt each
    obtain ⟨e1, e2⟩ := listOf22 len q
    refine ⟨(List.range len).map q, e1.symm, fun i x hi => ?_, fun e => (by cases e), fun hw => ?_⟩
    · obtain ⟨hi', rfl⟩ := e2 i x hi
      have h0 := hq i hi'
      have h00 := hq 0 (by omega) 0 _ rfl
      obtain ⟨b, off, spot⟩ := a
      have hspot : spot = none := by simpa [Addr.add] using World.cell?_spot h00
      subst hspot
      simp only [Go.WideShapes.add_plain, ← Nat.add_assoc] at h0
      exact ⟨b, off, rfl, World.block_lt_of_cell? W _ (h0 0 _ rfl), h0⟩
    · rw [e1]
      have := hw ((len + (m - len)) * 120) (by
        rw [hd.1]
        simp only [DataW.weights, Tryd.underlying23, Tryd.bytes22V, List.length_map, List.length_range]
        exact List.mem_cons_self)
      omega
/-- What is known of an argument that is a list of violations. -/
structure ArgV22 (w : World) (a : Option Addr) (cap : Nat) (l : List Vi.Vl) : Prop where
  at_ : Vi.At Vi.vl1 12 w a l
  nil : a = none → l.length = 0 ∧ cap = 0
  len : l.length ≤ 1172812402961
theorem open_argV22 {H : Type} {enc : TypeId × Value → H} {W : World} {fuel : Nat} {sa : Option Addr} {len cap : Nat} {d : DataW H} {p : List MemPlace}
    (h : DataW.trod enc Tryd.prog W 0 (fun _ => true) true fuel 23 [.slice sa len cap] = some (d, p)) : ∃ l : List Vi.Vl, len = l.length ∧ ((∀ n ∈ d.weights Tryd.prog 23, n ≤ reachBytes) → ArgV22 W sa cap l) := by
  obtain ⟨l, e, h1, h2, h3⟩ := openViols22 h
  refine ⟨l, e, fun hw => ⟨h1, h2, ?_⟩⟩
  have := h3 hw
  unfold reachBytes at this
  omega
set_option maxRecDepth 100000 in
theorem open_out {H : Type} {enc : TypeId × Value → H} {W : World} {fuel : Nat} {cs : Array Value} {d : DataW H} {p : List MemPlace} (hsz : cs.size = Tryd.prog.cellsOf 25)
    (h : DataW.trod enc Tryd.prog W 0 (fun _ => true) true fuel 25 cs.toList = some (d, p)) : ∃ (t : OuM) (a : Option Addr) (c : Nat), Value.agg cs = ouV t (.slice a t.ls.length c) ∧ ((∀ n ∈ d.weights Tryd.prog 25, n ≤ reachBytes) → ArgV22 W a c t.ls) := by
  have cS : Tryd.prog.cellsOf 25 = 6 := by kernel_rfl
  have cE : Tryd.prog.cellsOf 22 = 1 := by kernel_rfl
  have cL : Tryd.prog.cellsOf 23 = 1 := by kernel_rfl
  rw [cS] at hsz
  obtain ⟨xs, k, hk, hxy, _, hxl, hf⟩ := DataW.trod_struct Tryd.underlying25 h
  obtain ⟨cl⟩ := cs
  match xs, hxl, cl, hsz with
  | [y0, y1, y2, y3, y4, y5], _, [v0, v1, v2, v3, v4, v5], _ =>
    have g0 := hf 0 _ rfl
    have g1 := hf 1 _ rfl
    have g2 := hf 2 _ rfl
    have g3 := hf 3 _ rfl
    have g4 := hf 4 _ rfl
    have g5 := hf 5 _ rfl
    simp [Tryd.cells22I, cE, cL] at g0 g1 g2 g3 g4 g5
    obtain ⟨n0, e0, _⟩ := DataW.trod_int Tryd.underlying3 g0
    obtain ⟨n1, e1, _⟩ := DataW.trod_int Tryd.underlying22 g1
    obtain ⟨n2, e2, _⟩ := DataW.trod_int Tryd.underlying3 g2
    obtain ⟨n3, e3, _⟩ := DataW.trod_int Tryd.underlying3 g3
    obtain ⟨n4, e4, _⟩ := DataW.trod_int Tryd.underlying3 g4
    have sl : ∃ a n c, v5 = .slice a n c := by
      rcases Go.Deep.open_slice Tryd.underlying23 g5 with ⟨hcs, _⟩ | ⟨a, len', cap', m, n, D, Pl, hcs, _⟩
      · simp only [List.cons.injEq, and_true] at hcs; exact ⟨_, _, _, hcs⟩
      · simp only [List.cons.injEq, and_true] at hcs; exact ⟨_, _, _, hcs⟩
    obtain ⟨a, n, c, rfl⟩ := sl
    obtain ⟨d5, p5⟩ := y5
    obtain ⟨l, rfl, r⟩ := open_argV22 g5
    simp only [List.cons.injEq, and_true] at e0 e1 e2 e3 e4
    subst e0 e1 e2 e3 e4
    simp only [Prod.mk.injEq] at hxy
    refine ⟨⟨n0, n1, n2, n3, n4, l⟩, a, c, rfl, fun hw => r fun n hn => hw n ?_⟩
    rw [hxy.1]
    simp only [DataW.weights, Tryd.underlying25, List.map_cons, List.map_nil, DataW.weightsEach, List.mem_append]
    simp
    simp [hn]
end Go.Proofs.YtfhaiklfbnfdlaaDoor
