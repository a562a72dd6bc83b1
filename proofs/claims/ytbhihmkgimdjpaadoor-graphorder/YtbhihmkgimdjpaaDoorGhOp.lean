/- What is proved: a list of edges that can be read lies in memory as the walks ask it, its numbers fit, and it is no longer than a machine's memory bears; no condition. -/
import Derived.Test.YtbhihmkgimdjpaaDoorGhLd
import Derived.Test.YtbhihmkgimdjpaaDoorGhG
namespace Go.Proofs.YtbhihmkgimdjpaaDoor
open Go.ChangeShapes Go.WideShapes Go.ChangeAt Go.RowKit

theorem Tryd.bytesE : Tryd.prog.bytesOf 33 = 24 := by kernel_rfl
set_option maxRecDepth 100000 in
theorem edge_of {H : Type} {enc : TypeId × Value → H} {W : World} {fuel : Nat} {cl : List Value} {d : DataW H} {p : List MemPlace} (hsz : cl.length = 3)
    (h : DataW.trod enc Tryd.prog W 0 (fun _ => true) true fuel 33 cl = some (d, p)) : ∃ x : Eg, cl = eg1 x ∧ Eok x := by
  obtain ⟨xs, k, hk, hxy, _, hxl, hf⟩ := DataW.trod_struct Tryd.underlying33 h
  match xs, hxl, cl, hsz with
  | [y0, y1, y2], _, [v0, v1, v2], _ =>
    have g0 := hf 0 _ rfl
    have g1 := hf 1 _ rfl
    have g2 := hf 2 _ rfl
    simp [Tryd.cellsI] at g0 g1 g2
    obtain ⟨n0, e0, -, w0⟩ := DataW.trod_int Tryd.underlying3 g0
    obtain ⟨n1, e1, -, w1⟩ := DataW.trod_int Tryd.underlying3 g1
    obtain ⟨n2, e2, -, w2⟩ := DataW.trod_int Tryd.underlying3 g2
    simp only [List.cons.injEq, and_true] at e0 e1 e2
    subst e0 e1 e2
    exact ⟨⟨n0, n1, n2⟩, rfl, ⟨w0, w1, w2⟩⟩
theorem listOfE {α : Type} (n : Nat) (q : Nat → α) : ((List.range n).map q).length = n ∧ ∀ i x, ((List.range n).map q)[i]? = some x → i < n ∧ x = q i := by
  refine ⟨by simp, fun i x h => ?_⟩
  have hi := (List.getElem?_eq_some_iff.1 h).1
  simp only [List.length_map, List.length_range] at hi
  rw [List.getElem?_map, List.getElem?_range hi] at h
  simp only [Option.map_some, Option.some.injEq] at h
  exact ⟨hi, h.symm⟩
/-- What is known of an argument that is a list of edges. -/
structure ArgE (w : World) (a : Option Addr) (l : List Eg) : Prop where
  at_ : At eg1 3 w a l
  ok : ∀ e ∈ l, Eok e
  len : l.length ≤ 5864062014805
set_option maxRecDepth 100000 in
theorem open_edges {H : Type} {enc : TypeId × Value → H} {W : World} {fuel : Nat} {sa : Option Addr} {len cap : Nat} {d : DataW H} {p : List MemPlace}
    (h : DataW.trod enc Tryd.prog W 0 (fun _ => true) true fuel 38 [.slice sa len cap] = some (d, p)) : ∃ l : List Eg, len = l.length ∧ ((∀ n ∈ d.weights Tryd.prog 38, n ≤ reachBytes) → ArgE W sa l) := by
  rcases Go.Deep.open_slice Tryd.underlying38 h with ⟨hcs, hd⟩ | ⟨a, len', cap', m, n, D, Pl, hcs, _, hl, hm, hmm, hd, hx⟩
  · simp only [List.cons.injEq, Value.slice.injEq, and_true] at hcs
    obtain ⟨rfl, rfl, rfl⟩ := hcs
    exact ⟨[], rfl, fun _ => ⟨At.nil _ _ _ _, fun e he => (by cases he), by simp⟩⟩
  · simp only [List.cons.injEq, Value.slice.injEq, and_true] at hcs
    obtain ⟨rfl, rfl, rfl⟩ := hcs
    simp only [if_true] at hmm
    simp only [Prod.mk.injEq] at hd
    have each : ∀ i, i < len → ∃ r : Eg, Eok r ∧ ∀ c v, (eg1 r)[c]? = some v → W.cell? (a.add (i * 3 + c)) = some v := by
      intro i hi
      obtain ⟨cs', h1, h2⟩ := hx i (by omega)
      rw [Tryd.cellsE] at h1
      obtain ⟨_, hlen, hcell⟩ := World.cells?_some h1
      obtain ⟨r, rfl, ho⟩ := edge_of hlen h2
      refine ⟨r, ho, fun c v hv => ?_⟩
      have hc : c < 3 := by have := (List.getElem?_eq_some_iff.1 hv).1; rwa [hlen] at this
      have c0 := hcell c hc
      rw [Go.Deep.add_add] at c0
      rw [c0]
      exact hv
    obtain ⟨q, hq⟩ := Go.Deep.choose_lt each
    obtain ⟨e1, e2⟩ := listOfE len q
    refine ⟨(List.range len).map q, e1.symm, fun hw => ⟨fun i x hi => ?_, fun e he => ?_, ?_⟩⟩
    · obtain ⟨hi', rfl⟩ := e2 i x hi
      have h0 := (hq i hi').2
      have h00 := (hq 0 (by omega)).2 0 _ rfl
      obtain ⟨b, off, spot⟩ := a
      have hspot : spot = none := by simpa [Addr.add] using World.cell?_spot h00
      subst hspot
      simp only [Go.WideShapes.add_plain, ← Nat.add_assoc] at h0
      exact ⟨b, off, rfl, World.block_lt_of_cell? W _ (h0 0 _ rfl), h0⟩
    · obtain ⟨i, hi, rfl⟩ := List.mem_map.1 he
      exact (hq i (List.mem_range.1 hi)).1
    · rw [e1]
      have := hw ((len + (m - len)) * 24) (by
        rw [hd.1]
        simp only [DataW.weights, Tryd.underlying38, Tryd.bytesE, List.length_map, List.length_range]
        exact List.mem_cons_self)
      unfold reachBytes at this
      omega
end Go.Proofs.YtbhihmkgimdjpaaDoor
