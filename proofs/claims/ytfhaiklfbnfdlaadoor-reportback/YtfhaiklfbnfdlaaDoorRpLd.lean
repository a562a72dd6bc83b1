/- What is proved: an argument that is an outcome, or a list of violations, and can be read, lies in memory as the walks ask it, within the bounds that a machine's memory sets; no condition. -/
import Derived.Test.YtfhaiklfbnfdlaaDoorRoLd
import Derived.Test.YtfhaiklfbnfdlaaDoorRoM
import Derived.Deep.Slices
import Derived.Deep.SlicePairs
import Derived.SizedLaws
namespace Go.Proofs.YtfhaiklfbnfdlaaDoor
open Go.ChangeShapes Go.WideShapes Go.ChangeAt Go.RowKit

theorem Tryd.laid5 : laidOutB Tryd.prog = true := by kernel_rfl
theorem listOf22 (n : Nat) {α : Type} (f : Nat → α) : ((List.range n).map f).length = n ∧ ∀ i x, ((List.range n).map f)[i]? = some x → i < n ∧ x = f i := by
  refine ⟨by simp, fun i x h => ?_⟩
  have hi := (List.getElem?_eq_some_iff.1 h).1
  simp at hi
  rw [List.getElem?_map, List.getElem?_range hi] at h
  simp at h
  exact ⟨hi, h.symm⟩
theorem Tryd.cells22I : Tryd.prog.cellsOf 3 = 1 := by kernel_rfl
theorem Tryd.cells22B : Tryd.prog.cellsOf 4 = 1 := by kernel_rfl
theorem Tryd.cells22S : Tryd.prog.cellsOf 9 = 1 := by kernel_rfl
theorem Tryd.cells22V : Tryd.prog.cellsOf 41 = 12 := by kernel_rfl
theorem Tryd.bytes22V : Tryd.prog.bytesOf 41 = 120 := by kernel_rfl
set_option maxRecDepth 100000 in
theorem violOf22 {H : Type} {enc : TypeId × Value → H} {W : World} {fuel : Nat} {cl : List Value} {d : DataW H} {p : List MemPlace} (hsz : cl.length = 12)
    (h : DataW.trod enc Tryd.prog W 0 (fun _ => true) true fuel 41 cl = some (d, p)) : ∃ r : Vi.Vl, cl = Vi.vl1 r := by
  obtain ⟨xs, k, hk, hxy, _, hxl, hf⟩ := DataW.trod_struct Tryd.underlying41 h
  match xs, hxl, cl, hsz with
  | [y0, y1, y2, y3, y4, y5, y6, y7, y8, y9, y10, y11], _, [v0, v1, v2, v3, v4, v5, v6, v7, v8, v9, v10, v11], _ =>
    have g0 := hf 0 _ rfl
    have g1 := hf 1 _ rfl
    have g2 := hf 2 _ rfl
    have g3 := hf 3 _ rfl
    have g4 := hf 4 _ rfl
    have g5 := hf 5 _ rfl
    have g6 := hf 6 _ rfl
    have g7 := hf 7 _ rfl
    have g8 := hf 8 _ rfl
    have g9 := hf 9 _ rfl
    have g10 := hf 10 _ rfl
    have g11 := hf 11 _ rfl
    simp [Tryd.cells22I, Tryd.cells22S, Tryd.cells22B] at g0 g1 g2 g3 g4 g5 g6 g7 g8 g9 g10 g11
    obtain ⟨n0, e0, _⟩ := DataW.trod_int Tryd.underlying3 g0
    obtain ⟨n1, e1, _⟩ := DataW.trod_int Tryd.underlying3 g1
    obtain ⟨n2, e2, _⟩ := DataW.trod_int Tryd.underlying3 g2
    obtain ⟨n3, e3, _⟩ := DataW.trod_int Tryd.underlying3 g3
    obtain ⟨n4, e4, _⟩ := DataW.trod_int Tryd.underlying3 g4
    obtain ⟨n5, e5, _⟩ := DataW.trod_string Tryd.underlying9 g5
    obtain ⟨n6, e6, _⟩ := DataW.trod_bool Tryd.underlying4 g6
    obtain ⟨n7, e7, _⟩ := DataW.trod_string Tryd.underlying9 g7
    obtain ⟨n8, e8, _⟩ := DataW.trod_bool Tryd.underlying4 g8
    obtain ⟨n9, e9, _⟩ := DataW.trod_string Tryd.underlying9 g9
    obtain ⟨n10, e10, _⟩ := DataW.trod_int Tryd.underlying3 g10
    obtain ⟨n11, e11, _⟩ := DataW.trod_int Tryd.underlying3 g11
    simp only [List.cons.injEq, and_true] at e0 e1 e2 e3 e4 e5 e6 e7 e8 e9 e10 e11
    subst e0 e1 e2 e3 e4 e5 e6 e7 e8 e9 e10 e11
    exact ⟨⟨n0, n1, n2, n3, n4, n5, n6, n7, n8, n9, n10, n11⟩, rfl⟩
set_option maxRecDepth 100000 in
theorem openViols22 {H : Type} {enc : TypeId × Value → H} {W : World} {fuel : Nat} {sa : Option Addr} {len cap : Nat} {d : DataW H} {p : List MemPlace}
    (h : DataW.trod enc Tryd.prog W 0 (fun _ => true) true fuel 23 [.slice sa len cap] = some (d, p)) : ∃ l : List Vi.Vl, len = l.length ∧ Vi.At Vi.vl1 12 W sa l ∧ (sa = none → l.length = 0 ∧ cap = 0) ∧ ((∀ n ∈ d.weights Tryd.prog 23, n ≤ reachBytes) → l.length * 120 ≤ reachBytes) := by
  rcases Go.Deep.open_slice Tryd.underlying23 h with ⟨hcs, hd⟩ | ⟨a, len', cap', m, n, D, Pl, hcs, _, hl, hm, hmm, hd, hx⟩
  · simp only [List.cons.injEq, Value.slice.injEq, and_true] at hcs
    obtain ⟨rfl, rfl, rfl⟩ := hcs
    exact ⟨[], rfl, Vi.At.nil _ _ _ _, fun _ => ⟨rfl, rfl⟩, fun _ => by simp⟩
  · simp only [List.cons.injEq, Value.slice.injEq, and_true] at hcs
    obtain ⟨rfl, rfl, rfl⟩ := hcs
    simp only [if_true] at hmm
    simp only [Prod.mk.injEq] at hd
    have each : ∀ i, i < len → ∃ r : Vi.Vl, ∀ c v, (Vi.vl1 r)[c]? = some v → W.cell? (a.add (i * 12 + c)) = some v := by
      intro i hi
      obtain ⟨cs', h1, h2⟩ := hx i (by omega)
      rw [Tryd.cells22V] at h1
      obtain ⟨_, hlen, hcell⟩ := World.cells?_some h1
      obtain ⟨r, rfl⟩ := violOf22 hlen h2
      refine ⟨r, fun c v hv => ?_⟩
      have hc : c < 12 := by have := (List.getElem?_eq_some_iff.1 hv).1; rwa [hlen] at this
      have c0 := hcell c hc
      rw [Go.Deep.add_add] at c0
      rw [c0]
      exact hv
    obtain ⟨q, hq⟩ := Go.Deep.choose_lt each
    obtain ⟨e1, e2⟩ := listOf22 len q
    refine ⟨(List.range len).map q, e1.symm, fun i x hi => ?_, fun e => (by cases e), fun hw => ?_⟩
    · obtain ⟨hi', rfl⟩ := e2 i x hi
      have h0 := hq i hi'
      have h00 := hq 0 (by omega) 0 _ rfl
      obtain ⟨b, off, spot⟩ := a
      have hspot : spot = none := by simpa [Addr.add] using World.cell?_spot h00
      subst hspot
      simp only [Go.WideShapes.add_plain, ← Nat.add_assoc] at h0
      exact ⟨b, off, rfl, World.block_lt_of_cell? W _ (h0 0 _ rfl), h0⟩
    · rw [e1]
      have := hw ((len + (m - len)) * 120) (by
        rw [hd.1]
        simp only [DataW.weights, Tryd.underlying23, Tryd.bytes22V, List.length_map, List.length_range]
        exact List.mem_cons_self)
      omega
/-- What is known of an argument that is a list of violations. -/
structure ArgV22 (w : World) (a : Option Addr) (cap : Nat) (l : List Vi.Vl) : Prop where
  at_ : Vi.At Vi.vl1 12 w a l
  nil : a = none → l.length = 0 ∧ cap = 0
  len : l.length ≤ 1172812402961
theorem open_argV22 {H : Type} {enc : TypeId × Value → H} {W : World} {fuel : Nat} {sa : Option Addr} {len cap : Nat} {d : DataW H} {p : List MemPlace}
    (h : DataW.trod enc Tryd.prog W 0 (fun _ => true) true fuel 23 [.slice sa len cap] = some (d, p)) : ∃ l : List Vi.Vl, len = l.length ∧ ((∀ n ∈ d.weights Tryd.prog 23, n ≤ reachBytes) → ArgV22 W sa cap l) := by
  obtain ⟨l, e, h1, h2, h3⟩ := openViols22 h
  refine ⟨l, e, fun hw => ⟨h1, h2, ?_⟩⟩
  have := h3 hw
  unfold reachBytes at this
  omega
set_option maxRecDepth 100000 in
theorem open_out {H : Type} {enc : TypeId × Value → H} {W : World} {fuel : Nat} {cs : Array Value} {d : DataW H} {p : List MemPlace} (hsz : cs.size = Tryd.prog.cellsOf 25)
    (h : DataW.trod enc Tryd.prog W 0 (fun _ => true) true fuel 25 cs.toList = some (d, p)) : ∃ (t : OuM) (a : Option Addr) (c : Nat), Value.agg cs = ouV t (.slice a t.ls.length c) ∧ ((∀ n ∈ d.weights Tryd.prog 25, n ≤ reachBytes) → ArgV22 W a c t.ls) := by
  have cS : Tryd.prog.cellsOf 25 = 6 := by kernel_rfl
  have cE : Tryd.prog.cellsOf 22 = 1 := by kernel_rfl
  have cL : Tryd.prog.cellsOf 23 = 1 := by kernel_rfl
  rw [cS] at hsz
  obtain ⟨xs, k, hk, hxy, _, hxl, hf⟩ := DataW.trod_struct Tryd.underlying25 h
  obtain ⟨cl⟩ := cs
  match xs, hxl, cl, hsz with
  | [y0, y1, y2, y3, y4, y5], _, [v0, v1, v2, v3, v4, v5], _ =>
    have g0 := hf 0 _ rfl
    have g1 := hf 1 _ rfl
    have g2 := hf 2 _ rfl
    have g3 := hf 3 _ rfl
    have g4 := hf 4 _ rfl
    have g5 := hf 5 _ rfl
    simp [Tryd.cells22I, cE, cL] at g0 g1 g2 g3 g4 g5
    obtain ⟨n0, e0, _⟩ := DataW.trod_int Tryd.underlying3 g0
    obtain ⟨n1, e1, _⟩ := DataW.trod_int Tryd.underlying22 g1
    obtain ⟨n2, e2, _⟩ := DataW.trod_int Tryd.underlying3 g2
    obtain ⟨n3, e3, _⟩ := DataW.trod_int Tryd.underlying3 g3
    obtain ⟨n4, e4, _⟩ := DataW.trod_int Tryd.underlying3 g4
    have sl : ∃ a n c, v5 = .slice a n c := by
      rcases Go.Deep.open_slice Tryd.underlying23 g5 with ⟨hcs, _⟩ | ⟨a, len', cap', m, n, D, Pl, hcs, _⟩
      · simp only [List.cons.injEq, and_true] at hcs; exact ⟨_, _, _, hcs⟩
      · simp only [List.cons.injEq, and_true] at hcs; exact ⟨_, _, _, hcs⟩
    obtain ⟨a, n, c, rfl⟩ := sl
    obtain ⟨d5, p5⟩ := y5
    obtain ⟨l, rfl, r⟩ := open_argV22 g5
    simp only [List.cons.injEq, and_true] at e0 e1 e2 e3 e4
    subst e0 e1 e2 e3 e4
    simp only [Prod.mk.injEq] at hxy
    refine ⟨⟨n0, n1, n2, n3, n4, l⟩, a, c, rfl, fun hw => r fun n hn => hw n ?_⟩
    rw [hxy.1]
    simp only [DataW.weights, Tryd.underlying25, List.map_cons, List.map_nil, DataW.weightsEach, List.mem_append]
    simp
    simp [hn]
end Go.Proofs.YtfhaiklfbnfdlaaDoor
