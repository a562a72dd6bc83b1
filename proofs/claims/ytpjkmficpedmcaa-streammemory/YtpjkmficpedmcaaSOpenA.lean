/- What is proved: arguments that are lists of bytes or of numbers, and can be read, lie in memory as the walks ask it, within the bounds that a machine's memory sets; no condition. -/
import Derived.Test.YtpjkmficpedmcaaSAnchW
import Derived.ProofKit
import Derived.OpenShut
import Derived.Deep.Slices
import Derived.Deep.SlicePairs
import Derived.SizedLaws
namespace Go.Proofs.Ytpjkmficpedmcaa
open Go.ChangeShapes Go.WideShapes Go.ChangeAt Go.RowKit

/-- Bytes. -/
def Byts (l : List Int) : Prop := ∀ x ∈ l, 0 ≤ x ∧ x < 256
theorem Byts.nil : Byts [] := fun x h => by simp at h
/-- An argument that is a list of bytes. -/
structure ArgB (w : World) (oa : Option Addr) (c : Nat) (l : List Int) : Prop where
  data : BytesAt w oa l
  nil : oa = none → l.length = 0 ∧ c = 0
  cap : l.length ≤ c
  byts : Byts l
  len : l.length ≤ reachBytes
theorem ArgB.le {w : World} {oa : Option Addr} {c : Nat} {l : List Int} (h : ArgB w oa c l) : l.length ≤ 140737488351232 := by
  have := h.len
  unfold reachBytes at this
  omega
theorem Try.laid5 : laidOutB Try.prog = true := by kernel_rfl
theorem Try.cellsB : Try.prog.cellsOf 5 = 1 := by kernel_rfl
theorem Try.bytesB : Try.prog.bytesOf 5 = 1 := by kernel_rfl

theorem list_of (n : Nat) {α : Type} (f : Nat → α) : ((List.range n).map f).length = n ∧ ∀ i x, ((List.range n).map f)[i]? = some x → i < n ∧ x = f i := by
  refine ⟨by simp, fun i x h => ?_⟩
  have hi := (List.getElem?_eq_some_iff.1 h).1
  simp at hi
  rw [List.getElem?_map, List.getElem?_range hi] at h
  simp at h
  exact ⟨hi, h.symm⟩

theorem open_argB {H : Type} {enc : TypeId × Value → H} {W : World} {fuel : Nat} {sa : Option Addr} {len cap : Nat} {d : DataW H} {p : List MemPlace}
    (h : DataW.trod enc Try.prog W 0 (fun _ => true) true fuel 22 [.slice sa len cap] = some (d, p)) : ∃ l : List Int, len = l.length ∧ ((∀ n ∈ d.weights Try.prog 22, n ≤ reachBytes) → ArgB W sa cap l) := by
  rcases Go.Deep.open_slice1 Try.underlying22 Try.cellsB h with ⟨hcs, hd⟩ | ⟨a, len', cap', m, n, V, D, Pl, hcs, _, hl, hm, hmm, hd, hx⟩
  · simp only [List.cons.injEq, Value.slice.injEq, and_true] at hcs
    obtain ⟨rfl, rfl, rfl⟩ := hcs
    exact ⟨[], rfl, fun _ => ⟨BytesAt.nil _ _, fun _ => ⟨rfl, rfl⟩, Nat.le_refl _, Byts.nil, by simp⟩⟩
  · simp only [List.cons.injEq, Value.slice.injEq, and_true] at hcs
    obtain ⟨rfl, rfl, rfl⟩ := hcs
    simp only [if_true] at hmm
    simp only [Prod.mk.injEq] at hd
    have each : ∀ i, i < len → ∃ x : Int, W.cell? (a.add i) = some (.int .u8 x) ∧ 0 ≤ x ∧ x < 256 := by
      intro i hi
      obtain ⟨h1, h2⟩ := hx i (by omega)
      obtain ⟨x, e, _, hwf⟩ := DataW.trod_int Try.underlying5 h2
      simp only [List.cons.injEq, and_true] at e
      rw [e] at h1
      refine ⟨x, h1, ?_⟩
      have hwf : (decide (IntKind.u8.min ≤ x) && decide (x ≤ IntKind.u8.max)) = true := hwf
      rw [Bool.and_eq_true] at hwf
      have w1 : 0 ≤ x := of_decide_eq_true hwf.1
      have w2 : x ≤ 255 := of_decide_eq_true hwf.2
      omega
    obtain ⟨q, hq⟩ := Go.Deep.choose_lt each
    obtain ⟨e1, e2⟩ := list_of len q
    refine ⟨(List.range len).map q, e1.symm, fun hw => ⟨fun i x hi => ?_, fun e => (by cases e), by rw [e1]; exact hl, fun x hx' => ?_, ?_⟩⟩
    · obtain ⟨hi', rfl⟩ := e2 i x hi
      have h0 := (hq i hi').1
      have h00 := (hq 0 (by omega)).1
      obtain ⟨b, off, spot⟩ := a
      have hspot : spot = none := by simpa [Addr.add] using World.cell?_spot h00
      subst hspot
      rw [Go.WideShapes.add_plain] at h0
      exact ⟨b, off, rfl, World.block_lt_of_cell? W _ h0, h0⟩
    · obtain ⟨i, hi, rfl⟩ := List.mem_map.1 hx'
      exact (hq i (List.mem_range.1 hi)).2
    · rw [e1]
      have := hw ((len + (m - len)) * 1) (by
        rw [hd.1]
        simp only [DataW.weights, Try.underlying22, Try.bytesB, List.length_map, List.length_range]
        exact List.mem_cons_self)
      omega
theorem Try.cellsI7 : Try.prog.cellsOf 3 = 1 := by kernel_rfl
theorem Try.bytesI7 : Try.prog.bytesOf 3 = 8 := by kernel_rfl
theorem open_argI {H : Type} {enc : TypeId × Value → H} {W : World} {fuel : Nat} {sa : Option Addr} {len cap : Nat} {d : DataW H} {p : List MemPlace}
    (h : DataW.trod enc Try.prog W 0 (fun _ => true) true fuel 37 [.slice sa len cap] = some (d, p)) : ∃ l : List Int, len = l.length ∧ ((∀ n ∈ d.weights Try.prog 37, n ≤ reachBytes) → NumsAt W sa l ∧ l.length ≤ 140737488351232) := by
  rcases Go.Deep.open_slice1 Try.underlying37 Try.cellsI7 h with ⟨hcs, hd⟩ | ⟨a, len', cap', m, n, V, D, Pl, hcs, _, hl, hm, hmm, hd, hx⟩
  · simp only [List.cons.injEq, Value.slice.injEq, and_true] at hcs
    obtain ⟨rfl, rfl, rfl⟩ := hcs
    exact ⟨[], rfl, fun _ => ⟨fun i x hx => by simp at hx, by simp⟩⟩
  · simp only [List.cons.injEq, Value.slice.injEq, and_true] at hcs
    obtain ⟨rfl, rfl, rfl⟩ := hcs
    simp only [if_true] at hmm
    simp only [Prod.mk.injEq] at hd
    have each : ∀ i, i < len → ∃ x : Int, W.cell? (a.add i) = some (.int .i64 x) := by
      intro i hi
      obtain ⟨h1, h2⟩ := hx i (by omega)
      obtain ⟨x, e, _⟩ := DataW.trod_int Try.underlying3 h2
      simp only [List.cons.injEq, and_true] at e
      rw [e] at h1
      exact ⟨x, h1⟩
    obtain ⟨q, hq⟩ := Go.Deep.choose_lt each
    obtain ⟨e1, e2⟩ := list_of len q
    refine ⟨(List.range len).map q, e1.symm, fun hw => ⟨fun i x hi => ?_, ?_⟩⟩
    · obtain ⟨hi', rfl⟩ := e2 i x hi
      have h0 := hq i hi'
      have h00 := hq 0 (by omega)
      obtain ⟨b, off, spot⟩ := a
      have hspot : spot = none := by simpa [Addr.add] using World.cell?_spot h00
      subst hspot
      rw [Go.WideShapes.add_plain] at h0
      exact ⟨b, off, rfl, World.block_lt_of_cell? W _ h0, h0⟩
    · rw [e1]
      have := hw ((len + (m - len)) * 8) (by
        rw [hd.1]
        simp only [DataW.weights, Try.underlying37, Try.bytesI7, List.length_map, List.length_range]
        exact List.mem_cons_self)
      unfold reachBytes at this
      omega
end Go.Proofs.Ytpjkmficpedmcaa
