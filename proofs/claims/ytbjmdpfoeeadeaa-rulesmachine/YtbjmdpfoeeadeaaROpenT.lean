/- What is proved: an argument that is a transaction, and can be read, lies in memory as the walks ask it, within the bounds that a machine's memory sets; no condition. -/
import Derived.Test.YtbjmdpfoeeadeaaROpenB
namespace Go.Proofs.Ytbjmdpfoeeadeaa
open Go.ChangeShapes Go.WideShapes Go.ChangeAt Go.RowKit

instance : Inhabited OpM := ⟨z0⟩
theorem Try.cellsI : Try.prog.cellsOf 3 = 1 := by kernel_rfl
theorem Try.cellsS : Try.prog.cellsOf 9 = 1 := by kernel_rfl
theorem Try.cellsL : Try.prog.cellsOf 4 = 1 := by kernel_rfl
theorem Try.cellsO : Try.prog.cellsOf 79 = 4 := by kernel_rfl
theorem Try.cellsOs : Try.prog.cellsOf 22 = 1 := by kernel_rfl
theorem Try.bytesO : Try.prog.bytesOf 79 = 48 := by kernel_rfl
set_option maxRecDepth 100000 in
theorem open_ops {H : Type} {enc : TypeId × Value → H} {W : World} {fuel : Nat} {sa : Option Addr} {len cap : Nat} {d : DataW H} {p : List MemPlace}
    (h : DataW.trod enc Try.prog W 0 (fun _ => true) true fuel 22 [.slice sa len cap] = some (d, p)) : ∃ l : List OpM, len = l.length ∧ OpsAt W sa l ∧ (sa = none → l.length = 0 ∧ cap = 0) ∧ ((∀ n ∈ d.weights Try.prog 22, n ≤ reachBytes) → l.length * 48 ≤ reachBytes) := by
  rcases Go.Deep.open_slice Try.underlying22 h with ⟨hcs, hd⟩ | ⟨a, len', cap', m, n, D, Pl, hcs, _, hl, hm, hmm, hd, hx⟩
  · simp only [List.cons.injEq, Value.slice.injEq, and_true] at hcs
    obtain ⟨rfl, rfl, rfl⟩ := hcs
    exact ⟨[], rfl, OpsAt.nil _ _, fun _ => ⟨rfl, rfl⟩, fun _ => by simp⟩
  · simp only [List.cons.injEq, Value.slice.injEq, and_true] at hcs
    obtain ⟨rfl, rfl, rfl⟩ := hcs
    simp only [if_true] at hmm
    simp only [Prod.mk.injEq] at hd
    have each : ∀ i, i < len → ∃ o : OpM, W.cell? (a.add (i * 4)) = some (.int .i64 o.kind) ∧ W.cell? (a.add (i * 4 + 1)) = some (.string o.key) ∧ W.cell? (a.add (i * 4 + 2)) = some (.bool o.found) ∧ W.cell? (a.add (i * 4 + 3)) = some (.string o.value) := by
      intro i hi
      obtain ⟨cs', h1, h2⟩ := hx i (by omega)
      rw [Try.cellsO] at h1
      obtain ⟨_, hlen, hcell⟩ := World.cells?_some h1
      obtain ⟨xs, k, hk, hxy, _, hxl, hf⟩ := DataW.trod_struct Try.underlying79 h2
      match xs, hxl, cs', hlen with
      | [y0, y1, y2, y3], _, [v0, v1, v2, v3], _ =>
        have g0 := hf 0 _ rfl
        have g1 := hf 1 _ rfl
        have g2 := hf 2 _ rfl
        have g3 := hf 3 _ rfl
        simp [Try.cellsI, Try.cellsS, Try.cellsL] at g0 g1 g2 g3
        obtain ⟨n0, e0, _⟩ := DataW.trod_int Try.underlying3 g0
        obtain ⟨n1, e1, _⟩ := DataW.trod_string Try.underlying9 g1
        obtain ⟨n2, e2, _⟩ := DataW.trod_bool Try.underlying4 g2
        obtain ⟨n3, e3, _⟩ := DataW.trod_string Try.underlying9 g3
        have c0 := hcell 0 (by omega)
        have c1 := hcell 1 (by omega)
        have c2 := hcell 2 (by omega)
        have c3 := hcell 3 (by omega)
        rw [Go.Deep.add_add] at c0 c1 c2 c3
        simp only [List.cons.injEq, and_true] at e0 e1 e2 e3
        subst e0 e1 e2 e3
        exact ⟨⟨n0, n1, n2, n3⟩, by simpa using c0, by simpa using c1, by simpa using c2, by simpa using c3⟩
    obtain ⟨q, hq⟩ := Go.Deep.choose_lt each
    obtain ⟨e1, e2⟩ := list_of len q
    refine ⟨(List.range len).map q, e1.symm, fun i x hi => ?_, fun e => (by cases e), fun hw => ?_⟩
    · obtain ⟨hi', rfl⟩ := e2 i x hi
      obtain ⟨h0, h1, h2, h3⟩ := hq i hi'
      obtain ⟨h00, _, _, _⟩ := hq 0 (by omega)
      obtain ⟨b, off, spot⟩ := a
      have hspot : spot = none := by simpa [Addr.add] using World.cell?_spot h00
      subst hspot
      rw [Go.WideShapes.add_plain] at h0 h1 h2 h3
      exact ⟨b, off, rfl, World.block_lt_of_cell? W _ h0, h0, h1, h2, h3⟩
    · rw [e1]
      have := hw ((len + (m - len)) * 48) (by
        rw [hd.1]
        simp only [DataW.weights, Try.underlying22, Try.bytesO, List.length_map, List.length_range]
        exact List.mem_cons_self)
      omega
/-- What is known of an argument that is a transaction. -/
structure ArgT (w : World) (t : TxM) (a : Option Addr) (c : Nat) : Prop where
  ops : OpsAt w a t.ops
  nil : a = none → t.ops.length = 0 ∧ c = 0
  len : t.ops.length * 48 ≤ reachBytes
theorem ArgT.on {w w' : World} {t : TxM} {a : Option Addr} {c : Nat} (h : ArgT w t a c) (k : Kept w w') : ArgT w' t a c := ⟨h.ops.on k, h.nil, h.len⟩
theorem ArgT.txa {w : World} {t : TxM} {a : Option Addr} {c : Nat} (h : ArgT w t a c) : TxA w t (txV t (.slice a t.ops.length c)) := ⟨a, c, rfl, h.ops⟩
theorem ArgT.le {w : World} {t : TxM} {a : Option Addr} {c : Nat} (h : ArgT w t a c) : t.ops.length * 48 ≤ 140737488351232 := by
  have := h.len
  unfold reachBytes at this
  omega
set_option maxRecDepth 100000 in
theorem open_txn {H : Type} {enc : TypeId × Value → H} {W : World} {fuel : Nat} {cs : Array Value} {d : DataW H} {p : List MemPlace} (hsz : cs.size = Try.prog.cellsOf 24)
    (h : DataW.trod enc Try.prog W 0 (fun _ => true) true fuel 24 cs.toList = some (d, p)) : ∃ (t : TxM) (a : Option Addr) (c : Nat), Value.agg cs = txV t (.slice a t.ops.length c) ∧ ((∀ n ∈ d.weights Try.prog 24, n ≤ reachBytes) → ArgT W t a c) := by
  have cS : Try.prog.cellsOf 24 = 8 := by kernel_rfl
  rw [cS] at hsz
  obtain ⟨xs, k, hk, hxy, _, hxl, hf⟩ := DataW.trod_struct Try.underlying24 h
  obtain ⟨cl⟩ := cs
  match xs, hxl, cl, hsz with
  | [y0, y1, y2, y3, y4, y5, y6, y7], _, [v0, v1, v2, v3, v4, v5, v6, v7], _ =>
    have g0 := hf 0 _ rfl
    have g1 := hf 1 _ rfl
    have g2 := hf 2 _ rfl
    have g3 := hf 3 _ rfl
    have g4 := hf 4 _ rfl
    have g5 := hf 5 _ rfl
    have g6 := hf 6 _ rfl
    have g7 := hf 7 _ rfl
    simp [Try.cellsI, Try.cellsOs] at g0 g1 g2 g3 g4 g5 g6 g7
    obtain ⟨n0, e0, _⟩ := DataW.trod_int Try.underlying3 g0
    obtain ⟨n1, e1, _⟩ := DataW.trod_int Try.underlying3 g1
    obtain ⟨n2, e2, _⟩ := DataW.trod_int Try.underlying3 g2
    obtain ⟨n3, e3, _⟩ := DataW.trod_int Try.underlying3 g3
    obtain ⟨n4, e4, _⟩ := DataW.trod_int Try.underlying3 g4
    obtain ⟨n5, e5, _⟩ := DataW.trod_int Try.underlying3 g5
    obtain ⟨n6, e6, _⟩ := DataW.trod_int Try.underlying3 g6
    have sl : ∃ a n c, v7 = .slice a n c := by
      rcases Go.Deep.open_slice Try.underlying22 g7 with ⟨hcs, _⟩ | ⟨a, len', cap', m, n, D, Pl, hcs, _⟩
      · simp only [List.cons.injEq, and_true] at hcs; exact ⟨_, _, _, hcs⟩
      · simp only [List.cons.injEq, and_true] at hcs; exact ⟨_, _, _, hcs⟩
    obtain ⟨a, n, c, rfl⟩ := sl
    obtain ⟨d7, p7⟩ := y7
    obtain ⟨l, rfl, r1, r2, r3⟩ := open_ops g7
    simp only [List.cons.injEq, and_true] at e0 e1 e2 e3 e4 e5 e6
    subst e0 e1 e2 e3 e4 e5 e6
    simp only [Prod.mk.injEq] at hxy
    refine ⟨⟨n0, n1, n2, n3, n4, n5, n6, l⟩, a, c, rfl, fun hw => ⟨r1, r2, r3 fun n hn => hw n ?_⟩⟩
    rw [hxy.1]
    simp only [DataW.weights, Try.underlying24, List.map_cons, List.map_nil, DataW.weightsEach, List.mem_append]
    simp
    simp [hn]
end Go.Proofs.Ytbjmdpfoeeadeaa
