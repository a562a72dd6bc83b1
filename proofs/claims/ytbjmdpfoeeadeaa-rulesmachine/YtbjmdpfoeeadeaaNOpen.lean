/- What is proved: an argument that is a list of rows, and can be read, lies in memory as the walks ask it, within the bounds that a machine's memory sets; no condition. -/
import Derived.Test.YtbjmdpfoeeadeaaNRows
import Derived.Test.YtbjmdpfoeeadeaaNSort
import Derived.ProofKit
import Derived.OpenShut
import Derived.Deep.Slices
import Derived.Deep.SlicePairs
import Derived.SizedLaws
namespace Go.Proofs.Ytbjmdpfoeeadeaa.Rw
open Go.ChangeShapes Go.WideShapes Go.ChangeAt Go.RowKit

theorem Try.laid5 : laidOutB Try.prog = true := by kernel_rfl
theorem list_of (n : Nat) {α : Type} (f : Nat → α) : ((List.range n).map f).length = n ∧ ∀ i x, ((List.range n).map f)[i]? = some x → i < n ∧ x = f i := by
  refine ⟨by simp, fun i x h => ?_⟩
  have hi := (List.getElem?_eq_some_iff.1 h).1
  simp at hi
  rw [List.getElem?_map, List.getElem?_range hi] at h
  simp at h
  exact ⟨hi, h.symm⟩

theorem Try.cellsI : Try.prog.cellsOf 3 = 1 := by kernel_rfl
theorem Try.cellsS : Try.prog.cellsOf 9 = 1 := by kernel_rfl
theorem Try.cellsR : Try.prog.cellsOf 42 = 7 := by kernel_rfl
set_option maxRecDepth 100000 in
theorem row_of {H : Type} {enc : TypeId × Value → H} {W : World} {fuel : Nat} {cl : List Value} {d : DataW H} {p : List MemPlace} (hsz : cl.length = 7)
    (h : DataW.trod enc Try.prog W 0 (fun _ => true) true fuel 42 cl = some (d, p)) : ∃ r : RwM, cl = [.int .i64 r.kind, .int .i64 r.time, .int .i64 r.seq, .int .i64 r.index, .int .i64 r.frm, .int .i64 r.til, .string r.body] := by
  obtain ⟨xs, k, hk, hxy, _, hxl, hf⟩ := DataW.trod_struct Try.underlying42 h
  match xs, hxl, cl, hsz with
  | [y0, y1, y2, y3, y4, y5, y6], _, [v0, v1, v2, v3, v4, v5, v6], _ =>
    have g0 := hf 0 _ rfl
    have g1 := hf 1 _ rfl
    have g2 := hf 2 _ rfl
    have g3 := hf 3 _ rfl
    have g4 := hf 4 _ rfl
    have g5 := hf 5 _ rfl
    have g6 := hf 6 _ rfl
    simp [Try.cellsI, Try.cellsS] at g0 g1 g2 g3 g4 g5 g6
    obtain ⟨n0, e0, _⟩ := DataW.trod_int Try.underlying3 g0
    obtain ⟨n1, e1, _⟩ := DataW.trod_int Try.underlying3 g1
    obtain ⟨n2, e2, _⟩ := DataW.trod_int Try.underlying3 g2
    obtain ⟨n3, e3, _⟩ := DataW.trod_int Try.underlying3 g3
    obtain ⟨n4, e4, _⟩ := DataW.trod_int Try.underlying3 g4
    obtain ⟨n5, e5, _⟩ := DataW.trod_int Try.underlying3 g5
    obtain ⟨n6, e6, _⟩ := DataW.trod_string Try.underlying9 g6
    simp only [List.cons.injEq, and_true] at e0 e1 e2 e3 e4 e5 e6
    subst e0 e1 e2 e3 e4 e5 e6
    exact ⟨⟨n0, n1, n2, n3, n4, n5, n6⟩, rfl⟩
theorem Try.bytesR : Try.prog.bytesOf 42 = 64 := by kernel_rfl
set_option maxRecDepth 100000 in
theorem open_rows {H : Type} {enc : TypeId × Value → H} {W : World} {fuel : Nat} {sa : Option Addr} {len cap : Nat} {d : DataW H} {p : List MemPlace}
    (h : DataW.trod enc Try.prog W 0 (fun _ => true) true fuel 35 [.slice sa len cap] = some (d, p)) : ∃ l : List RwM, len = l.length ∧ RowsAt W sa l ∧ (sa = none → l.length = 0 ∧ cap = 0) ∧ ((∀ n ∈ d.weights Try.prog 35, n ≤ reachBytes) → l.length * 64 ≤ reachBytes) := by
  rcases Go.Deep.open_slice Try.underlying35 h with ⟨hcs, hd⟩ | ⟨a, len', cap', m, n, D, Pl, hcs, _, hl, hm, hmm, hd, hx⟩
  · simp only [List.cons.injEq, Value.slice.injEq, and_true] at hcs
    obtain ⟨rfl, rfl, rfl⟩ := hcs
    exact ⟨[], rfl, RowsAt.nil _ _, fun _ => ⟨rfl, rfl⟩, fun _ => by simp⟩
  · simp only [List.cons.injEq, Value.slice.injEq, and_true] at hcs
    obtain ⟨rfl, rfl, rfl⟩ := hcs
    simp only [if_true] at hmm
    simp only [Prod.mk.injEq] at hd
    have each : ∀ i, i < len → ∃ r : RwM, W.cell? (a.add (i * 7)) = some (.int .i64 r.kind) ∧ W.cell? (a.add (i * 7 + 1)) = some (.int .i64 r.time) ∧ W.cell? (a.add (i * 7 + 2)) = some (.int .i64 r.seq) ∧ W.cell? (a.add (i * 7 + 3)) = some (.int .i64 r.index) ∧ W.cell? (a.add (i * 7 + 4)) = some (.int .i64 r.frm) ∧ W.cell? (a.add (i * 7 + 5)) = some (.int .i64 r.til) ∧ W.cell? (a.add (i * 7 + 6)) = some (.string r.body) := by
      intro i hi
      obtain ⟨cs', h1, h2⟩ := hx i (by omega)
      rw [Try.cellsR] at h1
      obtain ⟨_, hlen, hcell⟩ := World.cells?_some h1
      obtain ⟨r, rfl⟩ := row_of hlen h2
      have c0 := hcell 0 (by omega)
      have c1 := hcell 1 (by omega)
      have c2 := hcell 2 (by omega)
      have c3 := hcell 3 (by omega)
      have c4 := hcell 4 (by omega)
      have c5 := hcell 5 (by omega)
      have c6 := hcell 6 (by omega)
      rw [Go.Deep.add_add] at c0 c1 c2 c3 c4 c5 c6
      exact ⟨r, by simpa using c0, by simpa using c1, by simpa using c2, by simpa using c3, by simpa using c4, by simpa using c5, by simpa using c6⟩
    obtain ⟨q, hq⟩ := Go.Deep.choose_lt each
    obtain ⟨e1, e2⟩ := list_of len q
    refine ⟨(List.range len).map q, e1.symm, fun i x hi => ?_, fun e => (by cases e), fun hw => ?_⟩
    · obtain ⟨hi', rfl⟩ := e2 i x hi
      obtain ⟨h0, h1, h2, h3, h4, h5, h6⟩ := hq i hi'
      obtain ⟨h00, _⟩ := hq 0 (by omega)
      obtain ⟨b, off, spot⟩ := a
      have hspot : spot = none := by simpa [Addr.add] using World.cell?_spot h00
      subst hspot
      rw [Go.WideShapes.add_plain] at h0 h1 h2 h3 h4 h5 h6
      exact ⟨b, off, rfl, World.block_lt_of_cell? W _ h0, h0, h1, h2, h3, h4, h5, h6⟩
    · rw [e1]
      have := hw ((len + (m - len)) * 64) (by
        rw [hd.1]
        simp only [DataW.weights, Try.underlying35, Try.bytesR, List.length_map, List.length_range]
        exact List.mem_cons_self)
      omega
/-- What is known of an argument that is a list of rows. -/
structure ArgR (w : World) (a : Option Addr) (cap : Nat) (l : List RwM) : Prop where
  rows : RowsAt w a l
  nil : a = none → l.length = 0 ∧ cap = 0
  len : l.length ≤ 2199023255488
theorem open_argR {H : Type} {enc : TypeId × Value → H} {W : World} {fuel : Nat} {sa : Option Addr} {len cap : Nat} {d : DataW H} {p : List MemPlace}
    (h : DataW.trod enc Try.prog W 0 (fun _ => true) true fuel 35 [.slice sa len cap] = some (d, p)) : ∃ l : List RwM, len = l.length ∧ ((∀ n ∈ d.weights Try.prog 35, n ≤ reachBytes) → ArgR W sa cap l) := by
  obtain ⟨l, e, h1, h2, h3⟩ := open_rows h
  refine ⟨l, e, fun hw => ⟨h1, h2, ?_⟩⟩
  have := h3 hw
  unfold reachBytes at this
  omega
end Go.Proofs.Ytbjmdpfoeeadeaa.Rw
