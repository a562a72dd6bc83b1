/- What is proved: arguments that are lists of bytes or rows, and can be read, lie in memory as the walks ask it, within the bounds that a machine's memory sets; no condition. -/
import Derived.Test.YtcbllejjiokmbaaQAnch
import Derived.ProofKit
import Derived.OpenShut
import Derived.Deep.Slices
import Derived.Deep.SlicePairs
import Derived.SizedLaws
namespace Go.Proofs.Ytcbllejjiokmbaa
open Go.ChangeShapes Go.WideShapes Go.ChangeAt Go.RowKit

/-- What is known of an argument that is a list of bytes. -/
structure ArgB (w : World) (oa : Option Addr) (c : Nat) (l : List Int) : Prop where
  data : BytesAt w oa l
  nil : oa = none → l.length = 0 ∧ c = 0
  cap : l.length ≤ c
  byts : Byts l
  len : l.length ≤ reachBytes
theorem ArgB.le {w : World} {oa : Option Addr} {c : Nat} {l : List Int} (h : ArgB w oa c l) : l.length ≤ 140737488351232 := by
  have := h.len
  unfold reachBytes at this
  omega
theorem ArgB.on {w w' : World} {oa : Option Addr} {c : Nat} {l : List Int} (h : ArgB w oa c l) (k : Kept w w') : ArgB w' oa c l := ⟨h.data.kept k (fun _ _ h => h), h.nil, h.cap, h.byts, h.len⟩
theorem bytes_take {w : World} {oa : Option Addr} {l : List Int} (h : BytesAt w oa l) (n : Nat) : BytesAt w oa (l.take n) := fun j x hx => by
  have hj := (List.getElem?_eq_some_iff.1 hx).1
  simp only [List.length_take] at hj
  rw [List.getElem?_take_of_lt (by omega)] at hx
  exact h j x hx
theorem Try.laid5 : laidOutB Try.prog = true := by kernel_rfl
theorem Try.cellsB : Try.prog.cellsOf 5 = 1 := by kernel_rfl
theorem Try.bytesB : Try.prog.bytesOf 5 = 1 := by kernel_rfl

theorem list_of (n : Nat) {α : Type} (f : Nat → α) : ((List.range n).map f).length = n ∧ ∀ i x, ((List.range n).map f)[i]? = some x → i < n ∧ x = f i := by
  refine ⟨by simp, fun i x h => ?_⟩
  have hi := (List.getElem?_eq_some_iff.1 h).1
  simp at hi
  rw [List.getElem?_map, List.getElem?_range hi] at h
  simp at h
  exact ⟨hi, h.symm⟩

theorem open_argB {H : Type} {enc : TypeId × Value → H} {W : World} {fuel : Nat} {sa : Option Addr} {len cap : Nat} {d : DataW H} {p : List MemPlace}
    (h : DataW.trod enc Try.prog W 0 (fun _ => true) true fuel 23 [.slice sa len cap] = some (d, p)) : ∃ l : List Int, len = l.length ∧ ((∀ n ∈ d.weights Try.prog 23, n ≤ reachBytes) → ArgB W sa cap l) := by
  rcases Go.Deep.open_slice1 Try.underlying23 Try.cellsB h with ⟨hcs, hd⟩ | ⟨a, len', cap', m, n, V, D, Pl, hcs, _, hl, hm, hmm, hd, hx⟩
  · simp only [List.cons.injEq, Value.slice.injEq, and_true] at hcs
    obtain ⟨rfl, rfl, rfl⟩ := hcs
    exact ⟨[], rfl, fun _ => ⟨BytesAt.nil _ _, fun _ => ⟨rfl, rfl⟩, Nat.le_refl _, Byts.nil, by simp⟩⟩
  · simp only [List.cons.injEq, Value.slice.injEq, and_true] at hcs
    obtain ⟨rfl, rfl, rfl⟩ := hcs
    simp only [if_true] at hmm
    simp only [Prod.mk.injEq] at hd
    have each : ∀ i, i < len → ∃ x : Int, W.cell? (a.add i) = some (.int .u8 x) ∧ 0 ≤ x ∧ x < 256 := by
      intro i hi
      obtain ⟨h1, h2⟩ := hx i (by omega)
      obtain ⟨x, e, _, hwf⟩ := DataW.trod_int Try.underlying5 h2
      simp only [List.cons.injEq, and_true] at e
      rw [e] at h1
      refine ⟨x, h1, ?_⟩
      have hwf : (decide (IntKind.u8.min ≤ x) && decide (x ≤ IntKind.u8.max)) = true := hwf
      rw [Bool.and_eq_true] at hwf
      have w1 : 0 ≤ x := of_decide_eq_true hwf.1
      have w2 : x ≤ 255 := of_decide_eq_true hwf.2
      omega
    obtain ⟨q, hq⟩ := Go.Deep.choose_lt each
    obtain ⟨e1, e2⟩ := list_of len q
    refine ⟨(List.range len).map q, e1.symm, fun hw => ⟨fun i x hi => ?_, fun e => (by cases e), by rw [e1]; exact hl, fun x hx' => ?_, ?_⟩⟩
    · obtain ⟨hi', rfl⟩ := e2 i x hi
      have h0 := (hq i hi').1
      have h00 := (hq 0 (by omega)).1
      obtain ⟨b, off, spot⟩ := a
      have hspot : spot = none := by simpa [Addr.add] using World.cell?_spot h00
      subst hspot
      rw [Go.WideShapes.add_plain] at h0
      exact ⟨b, off, rfl, World.block_lt_of_cell? W _ h0, h0⟩
    · obtain ⟨i, hi, rfl⟩ := List.mem_map.1 hx'
      exact (hq i (List.mem_range.1 hi)).2
    · rw [e1]
      have := hw ((len + (m - len)) * 1) (by
        rw [hd.1]
        simp only [DataW.weights, Try.underlying23, Try.bytesB, List.length_map, List.length_range]
        exact List.mem_cons_self)
      omega

theorem Try.cellsI : Try.prog.cellsOf 3 = 1 := by kernel_rfl
theorem Try.cellsS : Try.prog.cellsOf 9 = 1 := by kernel_rfl
theorem Try.cellsR : Try.prog.cellsOf 26 = 7 := by kernel_rfl
set_option maxRecDepth 100000 in
theorem row_of {H : Type} {enc : TypeId × Value → H} {W : World} {fuel : Nat} {cl : List Value} {d : DataW H} {p : List MemPlace} (hsz : cl.length = 7)
    (h : DataW.trod enc Try.prog W 0 (fun _ => true) true fuel 26 cl = some (d, p)) : ∃ r : RwM, cl = [.int .i64 r.kind, .int .i64 r.time, .int .i64 r.seq, .int .i64 r.index, .int .i64 r.frm, .int .i64 r.til, .string r.body] := by
  obtain ⟨xs, k, hk, hxy, _, hxl, hf⟩ := DataW.trod_struct Try.underlying26 h
  match xs, hxl, cl, hsz with
  | [y0, y1, y2, y3, y4, y5, y6], _, [v0, v1, v2, v3, v4, v5, v6], _ =>
    have g0 := hf 0 _ rfl
    have g1 := hf 1 _ rfl
    have g2 := hf 2 _ rfl
    have g3 := hf 3 _ rfl
    have g4 := hf 4 _ rfl
    have g5 := hf 5 _ rfl
    have g6 := hf 6 _ rfl
    simp [Try.cellsI, Try.cellsS] at g0 g1 g2 g3 g4 g5 g6
    obtain ⟨n0, e0, _⟩ := DataW.trod_int Try.underlying3 g0
    obtain ⟨n1, e1, _⟩ := DataW.trod_int Try.underlying3 g1
    obtain ⟨n2, e2, _⟩ := DataW.trod_int Try.underlying3 g2
    obtain ⟨n3, e3, _⟩ := DataW.trod_int Try.underlying3 g3
    obtain ⟨n4, e4, _⟩ := DataW.trod_int Try.underlying3 g4
    obtain ⟨n5, e5, _⟩ := DataW.trod_int Try.underlying3 g5
    obtain ⟨n6, e6, _⟩ := DataW.trod_string Try.underlying9 g6
    simp only [List.cons.injEq, and_true] at e0 e1 e2 e3 e4 e5 e6
    subst e0 e1 e2 e3 e4 e5 e6
    exact ⟨⟨n0, n1, n2, n3, n4, n5, n6⟩, rfl⟩
theorem open_row {H : Type} {enc : TypeId × Value → H} {W : World} {fuel : Nat} {cs : Array Value} {d : DataW H} {p : List MemPlace} (hsz : cs.size = Try.prog.cellsOf 26)
    (h : DataW.trod enc Try.prog W 0 (fun _ => true) true fuel 26 cs.toList = some (d, p)) : ∃ r : RwM, Value.agg cs = rowV r := by
  rw [Try.cellsR] at hsz
  obtain ⟨cl⟩ := cs
  obtain ⟨r, hr⟩ := row_of (by simpa using hsz) h
  simp only at hr
  subst hr
  exact ⟨r, rfl⟩
end Go.Proofs.Ytcbllejjiokmbaa
