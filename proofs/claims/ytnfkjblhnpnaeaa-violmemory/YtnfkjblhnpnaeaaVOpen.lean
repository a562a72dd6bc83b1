/- What is proved: an argument that is a list of violations, and can be read, lies in memory as the walks ask it, within the bounds that a machine's memory sets; no condition. -/
import Derived.Test.YtnfkjblhnpnaeaaVTn
import Derived.ProofKit
import Derived.OpenShut
import Derived.Deep.Slices
import Derived.Deep.SlicePairs
import Derived.SizedLaws
namespace Go.Proofs.Ytnfkjblhnpnaeaa
open Go.ChangeShapes Go.WideShapes Go.ChangeAt Go.RowKit

theorem Try.laid5 : laidOutB Try.prog = true := by kernel_rfl
theorem list_of (n : Nat) {α : Type} (f : Nat → α) : ((List.range n).map f).length = n ∧ ∀ i x, ((List.range n).map f)[i]? = some x → i < n ∧ x = f i := by
  refine ⟨by simp, fun i x h => ?_⟩
  have hi := (List.getElem?_eq_some_iff.1 h).1
  simp at hi
  rw [List.getElem?_map, List.getElem?_range hi] at h
  simp at h
  exact ⟨hi, h.symm⟩
theorem Try.cellsI : Try.prog.cellsOf 3 = 1 := by kernel_rfl
theorem Try.cellsB : Try.prog.cellsOf 4 = 1 := by kernel_rfl
theorem Try.cellsS : Try.prog.cellsOf 9 = 1 := by kernel_rfl
theorem Try.cellsV : Try.prog.cellsOf 30 = 12 := by kernel_rfl
theorem Try.bytesV : Try.prog.bytesOf 30 = 120 := by kernel_rfl
set_option maxRecDepth 100000 in
theorem viol_of {H : Type} {enc : TypeId × Value → H} {W : World} {fuel : Nat} {cl : List Value} {d : DataW H} {p : List MemPlace} (hsz : cl.length = 12)
    (h : DataW.trod enc Try.prog W 0 (fun _ => true) true fuel 30 cl = some (d, p)) : ∃ r : Vl, cl = vl1 r := by
  obtain ⟨xs, k, hk, hxy, _, hxl, hf⟩ := DataW.trod_struct Try.underlying30 h
  match xs, hxl, cl, hsz with
  | [y0, y1, y2, y3, y4, y5, y6, y7, y8, y9, y10, y11], _, [v0, v1, v2, v3, v4, v5, v6, v7, v8, v9, v10, v11], _ =>
    have g0 := hf 0 _ rfl
    have g1 := hf 1 _ rfl
    have g2 := hf 2 _ rfl
    have g3 := hf 3 _ rfl
    have g4 := hf 4 _ rfl
    have g5 := hf 5 _ rfl
    have g6 := hf 6 _ rfl
    have g7 := hf 7 _ rfl
    have g8 := hf 8 _ rfl
    have g9 := hf 9 _ rfl
    have g10 := hf 10 _ rfl
    have g11 := hf 11 _ rfl
    simp [Try.cellsI, Try.cellsS, Try.cellsB] at g0 g1 g2 g3 g4 g5 g6 g7 g8 g9 g10 g11
    obtain ⟨n0, e0, _⟩ := DataW.trod_int Try.underlying3 g0
    obtain ⟨n1, e1, _⟩ := DataW.trod_int Try.underlying3 g1
    obtain ⟨n2, e2, _⟩ := DataW.trod_int Try.underlying3 g2
    obtain ⟨n3, e3, _⟩ := DataW.trod_int Try.underlying3 g3
    obtain ⟨n4, e4, _⟩ := DataW.trod_int Try.underlying3 g4
    obtain ⟨n5, e5, _⟩ := DataW.trod_string Try.underlying9 g5
    obtain ⟨n6, e6, _⟩ := DataW.trod_bool Try.underlying4 g6
    obtain ⟨n7, e7, _⟩ := DataW.trod_string Try.underlying9 g7
    obtain ⟨n8, e8, _⟩ := DataW.trod_bool Try.underlying4 g8
    obtain ⟨n9, e9, _⟩ := DataW.trod_string Try.underlying9 g9
    obtain ⟨n10, e10, _⟩ := DataW.trod_int Try.underlying3 g10
    obtain ⟨n11, e11, _⟩ := DataW.trod_int Try.underlying3 g11
    simp only [List.cons.injEq, and_true] at e0 e1 e2 e3 e4 e5 e6 e7 e8 e9 e10 e11
    subst e0 e1 e2 e3 e4 e5 e6 e7 e8 e9 e10 e11
    exact ⟨⟨n0, n1, n2, n3, n4, n5, n6, n7, n8, n9, n10, n11⟩, rfl⟩
set_option maxRecDepth 100000 in
theorem open_viols {H : Type} {enc : TypeId × Value → H} {W : World} {fuel : Nat} {sa : Option Addr} {len cap : Nat} {d : DataW H} {p : List MemPlace}
    (h : DataW.trod enc Try.prog W 0 (fun _ => true) true fuel 28 [.slice sa len cap] = some (d, p)) : ∃ l : List Vl, len = l.length ∧ At vl1 12 W sa l ∧ (sa = none → l.length = 0 ∧ cap = 0) ∧ ((∀ n ∈ d.weights Try.prog 28, n ≤ reachBytes) → l.length * 120 ≤ reachBytes) := by
  rcases Go.Deep.open_slice Try.underlying28 h with ⟨hcs, hd⟩ | ⟨a, len', cap', m, n, D, Pl, hcs, _, hl, hm, hmm, hd, hx⟩
  · simp only [List.cons.injEq, Value.slice.injEq, and_true] at hcs
    obtain ⟨rfl, rfl, rfl⟩ := hcs
    exact ⟨[], rfl, At.nil _ _ _ _, fun _ => ⟨rfl, rfl⟩, fun _ => by simp⟩
  · simp only [List.cons.injEq, Value.slice.injEq, and_true] at hcs
    obtain ⟨rfl, rfl, rfl⟩ := hcs
    simp only [if_true] at hmm
    simp only [Prod.mk.injEq] at hd
    have each : ∀ i, i < len → ∃ r : Vl, ∀ c v, (vl1 r)[c]? = some v → W.cell? (a.add (i * 12 + c)) = some v := by
      intro i hi
      obtain ⟨cs', h1, h2⟩ := hx i (by omega)
      rw [Try.cellsV] at h1
      obtain ⟨_, hlen, hcell⟩ := World.cells?_some h1
      obtain ⟨r, rfl⟩ := viol_of hlen h2
      refine ⟨r, fun c v hv => ?_⟩
      have hc : c < 12 := by have := (List.getElem?_eq_some_iff.1 hv).1; rwa [hlen] at this
      have c0 := hcell c hc
      rw [Go.Deep.add_add] at c0
      rw [c0]
      exact hv
    obtain ⟨q, hq⟩ := Go.Deep.choose_lt each
    obtain ⟨e1, e2⟩ := list_of len q
    refine ⟨(List.range len).map q, e1.symm, fun i x hi => ?_, fun e => (by cases e), fun hw => ?_⟩
    · obtain ⟨hi', rfl⟩ := e2 i x hi
      have h0 := hq i hi'
      have h00 := hq 0 (by omega) 0 _ rfl
      obtain ⟨b, off, spot⟩ := a
      have hspot : spot = none := by simpa [Addr.add] using World.cell?_spot h00
      subst hspot
      simp only [Go.WideShapes.add_plain, ← Nat.add_assoc] at h0
      exact ⟨b, off, rfl, World.block_lt_of_cell? W _ (h0 0 _ rfl), h0⟩
    · rw [e1]
      have := hw ((len + (m - len)) * 120) (by
        rw [hd.1]
        simp only [DataW.weights, Try.underlying28, Try.bytesV, List.length_map, List.length_range]
        exact List.mem_cons_self)
      omega
/-- What is known of an argument that is a list of violations. -/
structure ArgV (w : World) (a : Option Addr) (cap : Nat) (l : List Vl) : Prop where
  at_ : At vl1 12 w a l
  nil : a = none → l.length = 0 ∧ cap = 0
  len : l.length ≤ 1172812402961
theorem open_argV {H : Type} {enc : TypeId × Value → H} {W : World} {fuel : Nat} {sa : Option Addr} {len cap : Nat} {d : DataW H} {p : List MemPlace}
    (h : DataW.trod enc Try.prog W 0 (fun _ => true) true fuel 28 [.slice sa len cap] = some (d, p)) : ∃ l : List Vl, len = l.length ∧ ((∀ n ∈ d.weights Try.prog 28, n ≤ reachBytes) → ArgV W sa cap l) := by
  obtain ⟨l, e, h1, h2, h3⟩ := open_viols h
  refine ⟨l, e, fun hw => ⟨h1, h2, ?_⟩⟩
  have := h3 hw
  unfold reachBytes at this
  omega
end Go.Proofs.Ytnfkjblhnpnaeaa
