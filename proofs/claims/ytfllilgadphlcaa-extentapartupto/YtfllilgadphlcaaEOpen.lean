/- What is proved: an argument that is a list of steps and can be read lies in memory as the walks ask it; no condition. -/
import Derived.Test.YtfllilgadphlcaaEHolesL
import Derived.ProofKit
import Derived.OpenShut
import Derived.Deep.Slices
import Derived.Deep.SlicePairs
namespace Go.Proofs.Ytfllilgadphlcaa
open Go.ChangeShapes Go.WideShapes Go.ChangeAt Go.RowKit

instance : Inhabited O3 := ⟨⟨0, 0, 0⟩⟩
theorem le_max {a : Int} (h : (Lit.int .i64 a).wf = true) : a ≤ 9223372036854775807 := by
  have h : (decide (IntKind.i64.min ≤ a) && decide (a ≤ IntKind.i64.max)) = true := h
  rw [Bool.and_eq_true] at h
  exact of_decide_eq_true h.2
theorem Try.laid4 : laidOutB Try.prog = true := by kernel_rfl

theorem open_ops {H : Type} {enc : TypeId × Value → H} {W : World} {fuel : Nat} {sa : Option Addr} {len cap : Nat} {d : DataW H} {p : List MemPlace}
    (h : DataW.trod enc Try.prog W 0 (fun _ => true) true fuel 22 [.slice sa len cap] = some (d, p)) : ∃ ls : List O3, len = ls.length ∧ OpsAt W sa ls ∧ ls.length ≤ 9223372036854775807 := by
  rcases Go.Deep.open_slice Try.underlying22 h with ⟨hcs, _⟩ | ⟨a, len', cap', m, n, D, Pl, hcs, _, hl, hm, hmm, _, hx⟩
  · simp only [List.cons.injEq, Value.slice.injEq, and_true] at hcs
    obtain ⟨rfl, rfl, rfl⟩ := hcs
    exact ⟨[], rfl, fun i o ho => by simp at ho, by simp⟩
  · simp only [List.cons.injEq, Value.slice.injEq, and_true] at hcs
    obtain ⟨rfl, rfl, rfl⟩ := hcs
    simp only [if_true] at hmm
    have ce : Try.prog.cellsOf 32 = 3 := by kernel_rfl
    have ci : Try.prog.cellsOf 3 = 1 := by kernel_rfl
    have each : ∀ i, i < len → ∃ q : O3, W.cell? (a.add (i * 3)) = some (.int .i64 q.k) ∧ W.cell? (a.add (i * 3 + 1)) = some (.int .i64 q.f) ∧ W.cell? (a.add (i * 3 + 2)) = some (.int .i64 q.c) ∧ q.f ≤ 9223372036854775807 := by
      intro i hi
      obtain ⟨cs', h1, h2⟩ := hx i (by omega)
      rw [ce] at h1
      obtain ⟨_, hlen, hcell⟩ := World.cells?_some h1
      obtain ⟨xs, k, hk, hxy, _, hxl, hf⟩ := DataW.trod_struct Try.underlying32 h2
      match xs, hxl, cs', hlen with
      | [y0, y1, y2], _, [v0, v1, v2], _ =>
        have g0 := hf 0 _ rfl
        have g1 := hf 1 _ rfl
        have g2 := hf 2 _ rfl
        simp [ci] at g0 g1 g2
        obtain ⟨n0, e0, _⟩ := DataW.trod_int Try.underlying3 g0
        obtain ⟨n1, e1, _, b1⟩ := DataW.trod_int Try.underlying3 g1
        obtain ⟨n2, e2, _⟩ := DataW.trod_int Try.underlying3 g2
        have c0 := hcell 0 (by omega)
        have c1 := hcell 1 (by omega)
        have c2 := hcell 2 (by omega)
        rw [Go.Deep.add_add] at c0 c1 c2
        simp only [List.cons.injEq, and_true] at e0 e1 e2
        subst e0 e1 e2
        exact ⟨⟨n0, n1, n2⟩, by simpa using c0, by simpa using c1, by simpa using c2, le_max b1⟩
    obtain ⟨q, hq⟩ := Go.Deep.choose_lt each
    have e1 : ((List.range len).map q).length = len := by simp
    have hmax : maxLen ≤ 9223372036854775807 := by decide
    refine ⟨(List.range len).map q, e1.symm, fun i o hi => ?_, by rw [e1]; omega⟩
    have hi' := (List.getElem?_eq_some_iff.1 hi).1
    rw [e1] at hi'
    rw [List.getElem?_map, List.getElem?_range hi'] at hi
    simp only [Option.map_some, Option.some.injEq] at hi
    subst hi
    obtain ⟨h0, h1, h2, h3⟩ := hq i hi'
    obtain ⟨h00, _⟩ := hq 0 (by omega)
    obtain ⟨b, off, spot⟩ := a
    have hspot : spot = none := by simpa [Addr.add] using World.cell?_spot h00
    subst hspot
    rw [Go.WideShapes.add_plain] at h0 h1 h2
    exact ⟨⟨b, off, rfl, World.block_lt_of_cell? W _ h0, h0, h1, h2⟩, h3⟩
end Go.Proofs.Ytfllilgadphlcaa
