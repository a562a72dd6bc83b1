/- What is proved: an argument that is a list of steps and can be read lies in memory as the walks ask it, within the bounds that a machine's memory sets; no condition. -/
import Derived.Test.YtolaeiagfnhllaaNOpen
namespace Go.Proofs.Ytolaeiagfnhllaa
open Go.ChangeShapes Go.WideShapes Go.ChangeAt Go.RowKit

structure OpN where
  kind : Int
  at_ : Int
  row : RwM
instance : Inhabited OpN := ⟨⟨0, 0, r0⟩⟩
/-- The steps l lie in w from address a on. -/
def OpsAt (w : World) (a : Option Addr) (l : List OpN) : Prop :=
  ∀ i o, l[i]? = some o → ∃ b off, a = some ⟨b, off, none⟩ ∧ b < w.heap.size ∧ w.cell? ⟨b, off + i * 9, none⟩ = some (.int .i64 o.kind) ∧ w.cell? ⟨b, off + i * 9 + 1, none⟩ = some (.int .i64 o.at_) ∧ w.cell? ⟨b, off + i * 9 + 2, none⟩ = some (.int .i64 o.row.kind) ∧ w.cell? ⟨b, off + i * 9 + 3, none⟩ = some (.int .i64 o.row.time) ∧ w.cell? ⟨b, off + i * 9 + 4, none⟩ = some (.int .i64 o.row.seq) ∧ w.cell? ⟨b, off + i * 9 + 5, none⟩ = some (.int .i64 o.row.index) ∧ w.cell? ⟨b, off + i * 9 + 6, none⟩ = some (.int .i64 o.row.frm) ∧ w.cell? ⟨b, off + i * 9 + 7, none⟩ = some (.int .i64 o.row.til) ∧ w.cell? ⟨b, off + i * 9 + 8, none⟩ = some (.string o.row.body)
theorem Try.cellsO11 : Try.prog.cellsOf 34 = 9 := by kernel_rfl
theorem Try.bytesO11 : Try.prog.bytesOf 34 = 80 := by kernel_rfl
set_option maxRecDepth 100000 in
theorem op_of {H : Type} {enc : TypeId × Value → H} {W : World} {fuel : Nat} {cl : List Value} {d : DataW H} {p : List MemPlace} (hsz : cl.length = 9)
    (h : DataW.trod enc Try.prog W 0 (fun _ => true) true fuel 34 cl = some (d, p)) : ∃ o : OpN, cl = [.int .i64 o.kind, .int .i64 o.at_, .int .i64 o.row.kind, .int .i64 o.row.time, .int .i64 o.row.seq, .int .i64 o.row.index, .int .i64 o.row.frm, .int .i64 o.row.til, .string o.row.body] := by
  obtain ⟨xs, k, hk, hxy, _, hxl, hf⟩ := DataW.trod_struct Try.underlying34 h
  match xs, hxl, cl, hsz with
  | [y0, y1, y2], _, [v0, v1, v2, v3, v4, v5, v6, v7, v8], _ =>
    have g0 := hf 0 _ rfl
    have g1 := hf 1 _ rfl
    have g2 := hf 2 _ rfl
    simp [Try.cellsI, Try.cellsR] at g0 g1 g2
    obtain ⟨n0, e0, _⟩ := DataW.trod_int Try.underlying3 g0
    obtain ⟨n1, e1, _⟩ := DataW.trod_int Try.underlying3 g1
    obtain ⟨r, e2⟩ := row_of rfl g2
    simp only [List.cons.injEq, and_true] at e0 e1 e2
    obtain ⟨rfl, rfl, rfl, rfl, rfl, rfl, rfl⟩ := e2
    subst e0 e1
    exact ⟨⟨n0, n1, r⟩, rfl⟩
set_option maxRecDepth 100000 in
theorem open_ops {H : Type} {enc : TypeId × Value → H} {W : World} {fuel : Nat} {sa : Option Addr} {len cap : Nat} {d : DataW H} {p : List MemPlace}
    (h : DataW.trod enc Try.prog W 0 (fun _ => true) true fuel 22 [.slice sa len cap] = some (d, p)) : ∃ l : List OpN, len = l.length ∧ ((∀ n ∈ d.weights Try.prog 22, n ≤ reachBytes) → OpsAt W sa l ∧ l.length ≤ 2199023255552) := by
  rcases Go.Deep.open_slice Try.underlying22 h with ⟨hcs, hd⟩ | ⟨a, len', cap', m, n, D, Pl, hcs, _, hl, hm, hmm, hd, hx⟩
  · simp only [List.cons.injEq, Value.slice.injEq, and_true] at hcs
    obtain ⟨rfl, rfl, rfl⟩ := hcs
    exact ⟨[], rfl, fun _ => ⟨fun i o ho => by simp at ho, by simp⟩⟩
  · simp only [List.cons.injEq, Value.slice.injEq, and_true] at hcs
    obtain ⟨rfl, rfl, rfl⟩ := hcs
    simp only [if_true] at hmm
    simp only [Prod.mk.injEq] at hd
    have each : ∀ i, i < len → ∃ o : OpN, W.cell? (a.add (i * 9)) = some (.int .i64 o.kind) ∧ W.cell? (a.add (i * 9 + 1)) = some (.int .i64 o.at_) ∧ W.cell? (a.add (i * 9 + 2)) = some (.int .i64 o.row.kind) ∧ W.cell? (a.add (i * 9 + 3)) = some (.int .i64 o.row.time) ∧ W.cell? (a.add (i * 9 + 4)) = some (.int .i64 o.row.seq) ∧ W.cell? (a.add (i * 9 + 5)) = some (.int .i64 o.row.index) ∧ W.cell? (a.add (i * 9 + 6)) = some (.int .i64 o.row.frm) ∧ W.cell? (a.add (i * 9 + 7)) = some (.int .i64 o.row.til) ∧ W.cell? (a.add (i * 9 + 8)) = some (.string o.row.body) := by
      intro i hi
      obtain ⟨cs', h1, h2⟩ := hx i (by omega)
      rw [Try.cellsO11] at h1
      obtain ⟨_, hlen, hcell⟩ := World.cells?_some h1
      obtain ⟨o, rfl⟩ := op_of hlen h2
      have c0 := hcell 0 (by omega)
      have c1 := hcell 1 (by omega)
      have c2 := hcell 2 (by omega)
      have c3 := hcell 3 (by omega)
      have c4 := hcell 4 (by omega)
      have c5 := hcell 5 (by omega)
      have c6 := hcell 6 (by omega)
      have c7 := hcell 7 (by omega)
      have c8 := hcell 8 (by omega)
      rw [Go.Deep.add_add] at c0 c1 c2 c3 c4 c5 c6 c7 c8
      exact ⟨o, by simpa using c0, by simpa using c1, by simpa using c2, by simpa using c3, by simpa using c4, by simpa using c5, by simpa using c6, by simpa using c7, by simpa using c8⟩
    obtain ⟨q, hq⟩ := Go.Deep.choose_lt each
    obtain ⟨e1, e2⟩ := list_of len q
    refine ⟨(List.range len).map q, e1.symm, fun hw => ⟨fun i x hi => ?_, ?_⟩⟩
    · obtain ⟨hi', rfl⟩ := e2 i x hi
      obtain ⟨h0, h1, h2, h3, h4, h5, h6, h7, h8⟩ := hq i hi'
      obtain ⟨h00, _⟩ := hq 0 (by omega)
      obtain ⟨b, off, spot⟩ := a
      have hspot : spot = none := by simpa [Addr.add] using World.cell?_spot h00
      subst hspot
      rw [Go.WideShapes.add_plain] at h0 h1 h2 h3 h4 h5 h6 h7 h8
      exact ⟨b, off, rfl, World.block_lt_of_cell? W _ h0, h0, h1, h2, h3, h4, h5, h6, h7, h8⟩
    · rw [e1]
      have := hw ((len + (m - len)) * 80) (by
        rw [hd.1]
        simp only [DataW.weights, Try.underlying22, Try.bytesO11, List.length_map, List.length_range]
        exact List.mem_cons_self)
      unfold reachBytes at this
      omega
end Go.Proofs.Ytolaeiagfnhllaa
