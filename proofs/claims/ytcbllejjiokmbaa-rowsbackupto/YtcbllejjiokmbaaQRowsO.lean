/- What is proved: an argument that is a list of rows, and can be read, lies in memory as the walks ask it, within the bounds that a machine's memory sets; no condition. -/
import Derived.Test.YtcbllejjiokmbaaQOpen
namespace Go.Proofs.Ytcbllejjiokmbaa
open Go.ChangeShapes Go.WideShapes Go.ChangeAt Go.RowKit

instance : Inhabited RwM := ⟨r0⟩
/-- The rows l lie in w from address a on. -/
def RowsAt (w : World) (a : Option Addr) (l : List RwM) : Prop :=
  ∀ i r, l[i]? = some r → ∃ b off, a = some ⟨b, off, none⟩ ∧ b < w.heap.size ∧ w.cell? ⟨b, off + i * 7, none⟩ = some (.int .i64 r.kind) ∧ w.cell? ⟨b, off + i * 7 + 1, none⟩ = some (.int .i64 r.time) ∧ w.cell? ⟨b, off + i * 7 + 2, none⟩ = some (.int .i64 r.seq) ∧ w.cell? ⟨b, off + i * 7 + 3, none⟩ = some (.int .i64 r.index) ∧ w.cell? ⟨b, off + i * 7 + 4, none⟩ = some (.int .i64 r.frm) ∧ w.cell? ⟨b, off + i * 7 + 5, none⟩ = some (.int .i64 r.til) ∧ w.cell? ⟨b, off + i * 7 + 6, none⟩ = some (.string r.body)
theorem RowsAt.nil (w : World) (a : Option Addr) : RowsAt w a [] := fun i r h => by simp at h
theorem RowsAt.on {w w' : World} {a : Option Addr} {l : List RwM} (h : RowsAt w a l) (k : Kept w w') : RowsAt w' a l := fun i r hr => by
  obtain ⟨b, off, rfl, hb, c0, c1, c2, c3, c4, c5, c6⟩ := h i r hr
  have t : ∀ o, w'.cell? ⟨b, o, none⟩ = w.cell? ⟨b, o, none⟩ := fun o => k.cell (p := ⟨b, o, none⟩) hb (fun e => e)
  exact ⟨b, off, rfl, Nat.lt_of_lt_of_le hb k.size, (t _).trans c0, (t _).trans c1, (t _).trans c2, (t _).trans c3, (t _).trans c4, (t _).trans c5, (t _).trans c6⟩
theorem Try.bytesR : Try.prog.bytesOf 26 = 64 := by kernel_rfl
set_option maxRecDepth 100000 in
theorem open_rows {H : Type} {enc : TypeId × Value → H} {W : World} {fuel : Nat} {sa : Option Addr} {len cap : Nat} {d : DataW H} {p : List MemPlace}
    (h : DataW.trod enc Try.prog W 0 (fun _ => true) true fuel 22 [.slice sa len cap] = some (d, p)) : ∃ l : List RwM, len = l.length ∧ RowsAt W sa l ∧ (sa = none → l.length = 0 ∧ cap = 0) ∧ ((∀ n ∈ d.weights Try.prog 22, n ≤ reachBytes) → l.length * 64 ≤ reachBytes) := by
  rcases Go.Deep.open_slice Try.underlying22 h with ⟨hcs, hd⟩ | ⟨a, len', cap', m, n, D, Pl, hcs, _, hl, hm, hmm, hd, hx⟩
  · simp only [List.cons.injEq, Value.slice.injEq, and_true] at hcs
    obtain ⟨rfl, rfl, rfl⟩ := hcs
    exact ⟨[], rfl, RowsAt.nil _ _, fun _ => ⟨rfl, rfl⟩, fun _ => by simp⟩
  · simp only [List.cons.injEq, Value.slice.injEq, and_true] at hcs
    obtain ⟨rfl, rfl, rfl⟩ := hcs
    simp only [if_true] at hmm
    simp only [Prod.mk.injEq] at hd
    have each : ∀ i, i < len → ∃ r : RwM, W.cell? (a.add (i * 7)) = some (.int .i64 r.kind) ∧ W.cell? (a.add (i * 7 + 1)) = some (.int .i64 r.time) ∧ W.cell? (a.add (i * 7 + 2)) = some (.int .i64 r.seq) ∧ W.cell? (a.add (i * 7 + 3)) = some (.int .i64 r.index) ∧ W.cell? (a.add (i * 7 + 4)) = some (.int .i64 r.frm) ∧ W.cell? (a.add (i * 7 + 5)) = some (.int .i64 r.til) ∧ W.cell? (a.add (i * 7 + 6)) = some (.string r.body) := by
      intro i hi
      obtain ⟨cs', h1, h2⟩ := hx i (by omega)
      rw [Try.cellsR] at h1
      obtain ⟨_, hlen, hcell⟩ := World.cells?_some h1
      obtain ⟨r, rfl⟩ := row_of hlen h2
      have c0 := hcell 0 (by omega)
      have c1 := hcell 1 (by omega)
      have c2 := hcell 2 (by omega)
      have c3 := hcell 3 (by omega)
      have c4 := hcell 4 (by omega)
      have c5 := hcell 5 (by omega)
      have c6 := hcell 6 (by omega)
      rw [Go.Deep.add_add] at c0 c1 c2 c3 c4 c5 c6
      exact ⟨r, by simpa using c0, by simpa using c1, by simpa using c2, by simpa using c3, by simpa using c4, by simpa using c5, by simpa using c6⟩
    obtain ⟨q, hq⟩ := Go.Deep.choose_lt each
    obtain ⟨e1, e2⟩ := list_of len q
    refine ⟨(List.range len).map q, e1.symm, fun i x hi => ?_, fun e => (by cases e), fun hw => ?_⟩
    · obtain ⟨hi', rfl⟩ := e2 i x hi
      obtain ⟨h0, h1, h2, h3, h4, h5, h6⟩ := hq i hi'
      obtain ⟨h00, _⟩ := hq 0 (by omega)
      obtain ⟨b, off, spot⟩ := a
      have hspot : spot = none := by simpa [Addr.add] using World.cell?_spot h00
      subst hspot
      rw [Go.WideShapes.add_plain] at h0 h1 h2 h3 h4 h5 h6
      exact ⟨b, off, rfl, World.block_lt_of_cell? W _ h0, h0, h1, h2, h3, h4, h5, h6⟩
    · rw [e1]
      have := hw ((len + (m - len)) * 64) (by
        rw [hd.1]
        simp only [DataW.weights, Try.underlying22, Try.bytesR, List.length_map, List.length_range]
        exact List.mem_cons_self)
      omega
end Go.Proofs.Ytcbllejjiokmbaa
