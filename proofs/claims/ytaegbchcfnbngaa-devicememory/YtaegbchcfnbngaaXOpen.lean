/- What is proved: an argument that is a list of bytes, and can be read, lies in memory as the walk asks it; no condition. -/
import Derived.Test.YtaegbchcfnbngaaDBase
import Derived.ProofKit
import Derived.OpenShut
import Derived.Deep.Slices
import Derived.Deep.SlicePairs
import Derived.SizedLaws
namespace Go.Proofs.Ytaegbchcfnbngaa
open Go.ChangeShapes Go.WideShapes Go.ChangeAt Go.RowKit

theorem Try.cellsB : Try.prog.cellsOf 5 = 1 := by kernel_rfl

theorem list_of (n : Nat) {α : Type} (f : Nat → α) : ((List.range n).map f).length = n ∧ ∀ i x, ((List.range n).map f)[i]? = some x → i < n ∧ x = f i := by
  refine ⟨by simp, fun i x h => ?_⟩
  have hi := (List.getElem?_eq_some_iff.1 h).1
  simp at hi
  rw [List.getElem?_map, List.getElem?_range hi] at h
  simp at h
  exact ⟨hi, h.symm⟩

theorem open_bytes {H : Type} {enc : TypeId × Value → H} {W : World} {fuel : Nat} {sa : Option Addr} {len cap : Nat} {d : DataW H} {p : List MemPlace}
    (h : DataW.trod enc Try.prog W 0 (fun _ => true) true fuel 22 [.slice sa len cap] = some (d, p)) : ∃ l : List Int, len = l.length ∧ ((∀ n ∈ d.weights Try.prog 22, n ≤ reachBytes) → BytesAt W sa l ∧ l.length ≤ cap) := by
  rcases Go.Deep.open_slice1 Try.underlying22 Try.cellsB h with ⟨hcs, hd⟩ | ⟨a, len', cap', m, n, V, D, Pl, hcs, _, hl, hm, hmm, hd, hx⟩
  · simp only [List.cons.injEq, Value.slice.injEq, and_true] at hcs
    obtain ⟨rfl, rfl, rfl⟩ := hcs
    exact ⟨[], rfl, fun _ => ⟨BytesAt.nil _ _, Nat.le_refl _⟩⟩
  · simp only [List.cons.injEq, Value.slice.injEq, and_true] at hcs
    obtain ⟨rfl, rfl, rfl⟩ := hcs
    simp only [if_true] at hmm
    have each : ∀ i, i < len → ∃ x : Int, W.cell? (a.add i) = some (.int .u8 x) := by
      intro i hi
      obtain ⟨h1, h2⟩ := hx i (by omega)
      obtain ⟨x, e, _⟩ := DataW.trod_int Try.underlying5 h2
      simp only [List.cons.injEq, and_true] at e
      rw [e] at h1
      exact ⟨x, h1⟩
    obtain ⟨q, hq⟩ := Go.Deep.choose_lt each
    obtain ⟨e1, e2⟩ := list_of len q
    refine ⟨(List.range len).map q, e1.symm, fun _ => ⟨fun i x hi => ?_, by rw [e1]; exact hl⟩⟩
    obtain ⟨hi', rfl⟩ := e2 i x hi
    have h0 := hq i hi'
    have h00 := hq 0 (by omega)
    obtain ⟨b, off, spot⟩ := a
    have hspot : spot = none := by simpa [Addr.add] using World.cell?_spot h00
    subst hspot
    rw [Go.WideShapes.add_plain] at h0
    exact ⟨b, off, rfl, World.block_lt_of_cell? W _ h0, h0⟩
end Go.Proofs.Ytaegbchcfnbngaa
