/- What is proved: arguments that are spans, lists of spans and lists of steps and can be read lie in memory as the walks ask it, within the bounds that a machine's memory sets; no condition. -/
import Derived.Test.YtaiaahcblohknaaYAnch
import Derived.ChangeMaps5
import Derived.Deep.Slices
import Derived.SizedLaws
import Derived.ProofKit
import Derived.OpenShut
namespace Go.Proofs.Ytaiaahcblohknaa
open Go.ChangeShapes Go.WideShapes Go.ChangeAt Go.RowKit

theorem Try.laid5 : laidOutB Try.prog = true := by kernel_rfl
theorem Try.cellsI : Try.prog.cellsOf 3 = 1 := by kernel_rfl
theorem Try.cellsSp : Try.prog.cellsOf 31 = 3 := by kernel_rfl
set_option maxRecDepth 100000 in
theorem span_of {H : Type} {enc : TypeId × Value → H} {W : World} {fuel : Nat} {cl : List Value} {d : DataW H} {p : List MemPlace} (hsz : cl.length = 3)
    (h : DataW.trod enc Try.prog W 0 (fun _ => true) true fuel 31 cl = some (d, p)) : ∃ x : Sp, cl = [.int .i64 x.f, .int .i64 x.t, .int .i64 x.i] := by
  obtain ⟨xs, k, hk, hxy, _, hxl, hf⟩ := DataW.trod_struct Try.underlying31 h
  match xs, hxl, cl, hsz with
  | [y0, y1, y2], _, [v0, v1, v2], _ =>
    have g0 := hf 0 _ rfl
    have g1 := hf 1 _ rfl
    have g2 := hf 2 _ rfl
    simp [Try.cellsI] at g0 g1 g2
    obtain ⟨n0, e0, _⟩ := DataW.trod_int Try.underlying3 g0
    obtain ⟨n1, e1, _⟩ := DataW.trod_int Try.underlying3 g1
    obtain ⟨n2, e2, _⟩ := DataW.trod_int Try.underlying3 g2
    simp only [List.cons.injEq, and_true] at e0 e1 e2
    subst e0 e1 e2
    exact ⟨⟨n0, n1, n2⟩, rfl⟩
theorem open_span {H : Type} {enc : TypeId × Value → H} {W : World} {fuel : Nat} {cs : Array Value} {d : DataW H} {p : List MemPlace} (hsz : cs.size = Try.prog.cellsOf 31)
    (h : DataW.trod enc Try.prog W 0 (fun _ => true) true fuel 31 cs.toList = some (d, p)) : ∃ x : Sp, Value.agg cs = spV x := by
  rw [Try.cellsSp] at hsz
  obtain ⟨x, hx⟩ := span_of (by simpa using hsz) h
  refine ⟨x, ?_⟩
  unfold spV
  rw [← hx]
end Go.Proofs.Ytaiaahcblohknaa
