/- What is proved: an argument that is a list of numbers and can be read lies in memory as the walks ask it; no condition. -/
import Derived.Test.YtfllilgadphlcaaEOpen
import Derived.Test.YtfllilgadphlcaaECnt
namespace Go.Proofs.Ytfllilgadphlcaa
open Go.ChangeShapes Go.WideShapes Go.ChangeAt Go.RowKit

theorem cellsI : Try.prog.cellsOf 3 = 1 := by kernel_rfl
theorem open_ints {H : Type} {enc : TypeId × Value → H} {W : World} {fuel : Nat} {sa : Option Addr} {len cap : Nat} {d : DataW H} {p : List MemPlace}
    (h : DataW.trod enc Try.prog W 0 (fun _ => true) true fuel 36 [.slice sa len cap] = some (d, p)) : ∃ l : List Int, len = l.length ∧ IntsAt W sa l ∧ l.length ≤ 9223372036854775807 := by
  rcases Go.Deep.open_slice1 Try.underlying36 cellsI h with ⟨hcs, hd⟩ | ⟨a, len', cap', m, n, V, D, Pl, hcs, _, hl, hm, hmm, hd, hx⟩
  · simp only [List.cons.injEq, Value.slice.injEq, and_true] at hcs
    obtain ⟨rfl, rfl, rfl⟩ := hcs
    exact ⟨[], rfl, fun i x hx => by simp at hx, by simp⟩
  · simp only [List.cons.injEq, Value.slice.injEq, and_true] at hcs
    obtain ⟨rfl, rfl, rfl⟩ := hcs
    simp only [if_true] at hmm
    have each : ∀ i, i < len → ∃ x : Int, W.cell? (a.add i) = some (.int .i64 x) := by
      intro i hi
      obtain ⟨h1, h2⟩ := hx i (by omega)
      obtain ⟨x, e, _⟩ := DataW.trod_int Try.underlying3 h2
      simp only [List.cons.injEq, and_true] at e
      rw [e] at h1
      exact ⟨x, h1⟩
    obtain ⟨q, hq⟩ := Go.Deep.choose_lt each
    have e1 : ((List.range len).map q).length = len := by simp
    have hmax : maxLen ≤ 9223372036854775807 := by decide
    refine ⟨(List.range len).map q, e1.symm, fun i x hi => ?_, by rw [e1]; omega⟩
    have hi' := (List.getElem?_eq_some_iff.1 hi).1
    rw [e1] at hi'
    rw [List.getElem?_map, List.getElem?_range hi'] at hi
    simp only [Option.map_some, Option.some.injEq] at hi
    subst hi
    have h0 := hq i hi'
    have h00 := hq 0 (by omega)
    obtain ⟨b, off, spot⟩ := a
    have hspot : spot = none := by simpa [Addr.add] using World.cell?_spot h00
    subst hspot
    rw [Go.WideShapes.add_plain] at h0
    exact ⟨b, off, rfl, World.block_lt_of_cell? W _ h0, h0⟩
end Go.Proofs.Ytfllilgadphlcaa
