/- What is proved: a list of steps that can be read lies in memory as the walks ask it, within the bounds that a machine's memory sets; no condition. -/
import Derived.Test.YtaiaahcblohknaaYOpen
import Derived.Test.YtaiaahcblohknaaYSps
namespace Go.Proofs.Ytaiaahcblohknaa
open Go.ChangeShapes Go.WideShapes Go.ChangeAt Go.RowKit

/-- A step. -/
structure OpY where
  kind : Int
  a : Int
  b : Int
  key : ByteArray
  s : Sp
instance : Inhabited OpY := ⟨⟨0, 0, 0, ⟨#[]⟩, ⟨0, 0, 0⟩⟩⟩
/-- The steps l lie in w from address a on. -/
def OpsAt (w : World) (a : Option Addr) (l : List OpY) : Prop :=
  ∀ i o, l[i]? = some o → ∃ b off, a = some ⟨b, off, none⟩ ∧ b < w.heap.size ∧ w.cell? ⟨b, off + i * 7, none⟩ = some (.int .i64 o.kind) ∧ w.cell? ⟨b, off + i * 7 + 1, none⟩ = some (.int .i64 o.a) ∧ w.cell? ⟨b, off + i * 7 + 2, none⟩ = some (.int .i64 o.b) ∧ w.cell? ⟨b, off + i * 7 + 3, none⟩ = some (.string o.key) ∧ w.cell? ⟨b, off + i * 7 + 4, none⟩ = some (.int .i64 o.s.f) ∧ w.cell? ⟨b, off + i * 7 + 5, none⟩ = some (.int .i64 o.s.t) ∧ w.cell? ⟨b, off + i * 7 + 6, none⟩ = some (.int .i64 o.s.i)
theorem OpsAt.on {w w' : World} {a : Option Addr} {l : List OpY} (h : OpsAt w a l) (k : Kept w w') : OpsAt w' a l := fun i o ho => by
  obtain ⟨b, off, rfl, hb, c0, c1, c2, c3, c4, c5, c6⟩ := h i o ho
  have t : ∀ o, w'.cell? ⟨b, o, none⟩ = w.cell? ⟨b, o, none⟩ := fun o => k.cell (p := ⟨b, o, none⟩) hb (fun e => e)
  exact ⟨b, off, rfl, Nat.lt_of_lt_of_le hb k.size, (t _).trans c0, (t _).trans c1, (t _).trans c2, (t _).trans c3, (t _).trans c4, (t _).trans c5, (t _).trans c6⟩
def Small (l : List OpY) : Prop := ∀ o ∈ l, o.key.size ≤ maxLen
theorem Try.cellsS : Try.prog.cellsOf 9 = 1 := by kernel_rfl
theorem Try.cellsO14 : Try.prog.cellsOf 33 = 7 := by kernel_rfl
theorem Try.bytesO14 : Try.prog.bytesOf 33 = 64 := by kernel_rfl
set_option maxRecDepth 100000 in
theorem op_of {H : Type} {enc : TypeId × Value → H} {W : World} {fuel : Nat} {cl : List Value} {d : DataW H} {p : List MemPlace} (hsz : cl.length = 7)
    (h : DataW.trod enc Try.prog W 0 (fun _ => true) true fuel 33 cl = some (d, p)) : ∃ o : OpY, cl = [.int .i64 o.kind, .int .i64 o.a, .int .i64 o.b, .string o.key, .int .i64 o.s.f, .int .i64 o.s.t, .int .i64 o.s.i] ∧ o.key.size ≤ maxLen := by
  obtain ⟨xs, k, hk, hxy, _, hxl, hf⟩ := DataW.trod_struct Try.underlying33 h
  match xs, hxl, cl, hsz with
  | [y0, y1, y2, y3, y4], _, [v0, v1, v2, v3, v4, v5, v6], _ =>
    have g0 := hf 0 _ rfl
    have g1 := hf 1 _ rfl
    have g2 := hf 2 _ rfl
    have g3 := hf 3 _ rfl
    have g4 := hf 4 _ rfl
    simp [Try.cellsI, Try.cellsS, Try.cellsSp] at g0 g1 g2 g3 g4
    obtain ⟨n0, e0, _⟩ := DataW.trod_int Try.underlying3 g0
    obtain ⟨n1, e1, _⟩ := DataW.trod_int Try.underlying3 g1
    obtain ⟨n2, e2, _⟩ := DataW.trod_int Try.underlying3 g2
    obtain ⟨n3, e3, _, hb⟩ := DataW.trod_string Try.underlying9 g3
    obtain ⟨x, e4⟩ := span_of rfl g4
    simp only [List.cons.injEq, and_true] at e0 e1 e2 e3 e4
    obtain ⟨rfl, rfl, rfl⟩ := e4
    subst e0 e1 e2 e3
    exact ⟨⟨n0, n1, n2, n3, x⟩, rfl, hb⟩
set_option maxRecDepth 100000 in
theorem open_ops {H : Type} {enc : TypeId × Value → H} {W : World} {fuel : Nat} {sa : Option Addr} {len cap : Nat} {d : DataW H} {p : List MemPlace}
    (h : DataW.trod enc Try.prog W 0 (fun _ => true) true fuel 22 [.slice sa len cap] = some (d, p)) : ∃ l : List OpY, len = l.length ∧ ((∀ n ∈ d.weights Try.prog 22, n ≤ reachBytes) → OpsAt W sa l ∧ Small l ∧ l.length ≤ 2199023255552) := by
  rcases Go.Deep.open_slice Try.underlying22 h with ⟨hcs, hd⟩ | ⟨a, len', cap', m, n, D, Pl, hcs, _, hl, hm, hmm, hd, hx⟩
  · simp only [List.cons.injEq, Value.slice.injEq, and_true] at hcs
    obtain ⟨rfl, rfl, rfl⟩ := hcs
    exact ⟨[], rfl, fun _ => ⟨fun i o ho => by simp at ho, fun o ho => by simp at ho, by simp⟩⟩
  · simp only [List.cons.injEq, Value.slice.injEq, and_true] at hcs
    obtain ⟨rfl, rfl, rfl⟩ := hcs
    simp only [if_true] at hmm
    simp only [Prod.mk.injEq] at hd
    have each : ∀ i, i < len → ∃ o : OpY, (W.cell? (a.add (i * 7)) = some (.int .i64 o.kind) ∧ W.cell? (a.add (i * 7 + 1)) = some (.int .i64 o.a) ∧ W.cell? (a.add (i * 7 + 2)) = some (.int .i64 o.b) ∧ W.cell? (a.add (i * 7 + 3)) = some (.string o.key) ∧ W.cell? (a.add (i * 7 + 4)) = some (.int .i64 o.s.f) ∧ W.cell? (a.add (i * 7 + 5)) = some (.int .i64 o.s.t) ∧ W.cell? (a.add (i * 7 + 6)) = some (.int .i64 o.s.i)) ∧ o.key.size ≤ maxLen := by
      intro i hi
      obtain ⟨cs', h1, h2⟩ := hx i (by omega)
      rw [Try.cellsO14] at h1
      obtain ⟨_, hlen, hcell⟩ := World.cells?_some h1
      obtain ⟨o, rfl, hs⟩ := op_of hlen h2
      have c0 := hcell 0 (by omega)
      have c1 := hcell 1 (by omega)
      have c2 := hcell 2 (by omega)
      have c3 := hcell 3 (by omega)
      have c4 := hcell 4 (by omega)
      have c5 := hcell 5 (by omega)
      have c6 := hcell 6 (by omega)
      rw [Go.Deep.add_add] at c0 c1 c2 c3 c4 c5 c6
      exact ⟨o, ⟨by simpa using c0, by simpa using c1, by simpa using c2, by simpa using c3, by simpa using c4, by simpa using c5, by simpa using c6⟩, hs⟩
    obtain ⟨q, hq⟩ := Go.Deep.choose_lt each
    obtain ⟨e1, e2⟩ := listS len q
    refine ⟨(List.range len).map q, e1.symm, fun hw => ⟨fun i x hi => ?_, fun o ho => ?_, ?_⟩⟩
    · obtain ⟨hi', rfl⟩ := e2 i x hi
      obtain ⟨⟨h0, h1, h2, h3, h4, h5, h6⟩, -⟩ := hq i hi'
      obtain ⟨⟨h00, _⟩, _⟩ := hq 0 (by omega)
      obtain ⟨b, off, spot⟩ := a
      have hspot : spot = none := by simpa [Addr.add] using World.cell?_spot h00
      subst hspot
      rw [Go.WideShapes.add_plain] at h0 h1 h2 h3 h4 h5 h6
      exact ⟨b, off, rfl, World.block_lt_of_cell? W _ h0, h0, h1, h2, h3, h4, h5, h6⟩
    · obtain ⟨i, hi, rfl⟩ := List.mem_map.1 ho
      exact (hq i (List.mem_range.1 hi)).2
    · rw [e1]
      have := hw ((len + (m - len)) * 64) (by
        rw [hd.1]
        simp only [DataW.weights, Try.underlying22, Try.bytesO14, List.length_map, List.length_range]
        exact List.mem_cons_self)
      unfold reachBytes at this
      omega
end Go.Proofs.Ytaiaahcblohknaa
