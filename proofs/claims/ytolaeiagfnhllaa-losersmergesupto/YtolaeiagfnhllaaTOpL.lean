/- What is proved: an argument of small bulk that is a list of lists of rows lies in memory as the walks ask it; no condition but the bulk's. -/
import Derived.Test.YtolaeiagfnhllaaTMgL
import Derived.Test.YtolaeiagfnhllaaNOpen
namespace Go.Proofs.Ytolaeiagfnhllaa
open Go.ChangeShapes Go.WideShapes Go.ChangeAt Go.RowKit

theorem bulk_one {H : Type} (d : DataW H) : 1 ≤ Rows.uptoBulk d := by
  cases d with
  | lit l => cases l <;> simp [Rows.uptoBulk]
  | nil => simp [Rows.uptoBulk]
  | ptr d => simp [Rows.uptoBulk]
  | slice elems spare => simp [Rows.uptoBulk]
  | agg parts => simp [Rows.uptoBulk]
  | iface t d => simp [Rows.uptoBulk]
  | map entries => simp [Rows.uptoBulk]
  | held h => simp [Rows.uptoBulk]
theorem bulk_len {H : Type} (l : List (DataW H)) : l.length ≤ Rows.uptoBulkAll l := by
  induction l with
  | nil => simp [Rows.uptoBulkAll]
  | cons x r ih => have := bulk_one x; simp only [Rows.uptoBulkAll, List.length_cons]; omega

theorem open_rowsU {H : Type} {enc : TypeId × Value → H} {W : World} {fuel : Nat} {sa : Option Addr} {len cap : Nat} {d : DataW H} {p : List MemPlace}
    (h : DataW.trod enc Try.prog W 0 (fun _ => true) true fuel 39 [.slice sa len cap] = some (d, p)) : ∃ l : List RwM, len = l.length ∧ (Rows.uptoBulk d ≤ 1048576 → RowsAt W sa l) ∧ l.length ≤ Rows.uptoBulk d := by
  obtain ⟨l, e, h1, -, -⟩ := open_rows h
  refine ⟨l, e, fun _ => h1, ?_⟩
  rw [← e]
  rcases Go.Deep.open_slice Try.underlying39 h with ⟨hcs, hd⟩ | ⟨a, len', cap', m, n, D, Pl, hcs, _, hl, hm, hmm, hd, hx⟩
  · simp only [List.cons.injEq, Value.slice.injEq, and_true] at hcs
    obtain ⟨-, rfl, -⟩ := hcs
    exact Nat.zero_le _
  · simp only [List.cons.injEq, Value.slice.injEq, and_true] at hcs
    obtain ⟨-, rfl, -⟩ := hcs
    simp only [Prod.mk.injEq] at hd
    rw [hd.1]
    simp only [Rows.uptoBulk]
    have := bulk_len ((List.range len).map D)
    simp only [List.length_map, List.length_range] at this
    omega
theorem flat_bulk {H : Type} (q : Nat → List RwM) (D : Nat → DataW H) : ∀ (is : List Nat), (∀ i ∈ is, (q i).length ≤ Rows.uptoBulk (D i)) → (is.map q).flatten.length ≤ Rows.uptoBulkAll (is.map D)
  | [], _ => by simp
  | i :: is, h => by
    have h1 := h i (List.mem_cons_self ..)
    have h2 := flat_bulk q D is fun j hj => h j (List.mem_cons_of_mem _ hj)
    simp only [List.map_cons, List.flatten_cons, List.length_append, Rows.uptoBulkAll]
    omega
theorem Try.cellsL : Try.prog.cellsOf 39 = 1 := by kernel_rfl
theorem open_listsU {H : Type} {enc : TypeId × Value → H} {W : World} {fuel : Nat} {sa : Option Addr} {len cap : Nat} {d : DataW H} {p : List MemPlace}
    (h : DataW.trod enc Try.prog W 0 (fun _ => true) true fuel 37 [.slice sa len cap] = some (d, p)) : ∃ L : List (List RwM), len = L.length ∧ ListsArg W sa L ∧ (L.flatten.length ≤ Rows.uptoBulk d ∧ L.length ≤ Rows.uptoBulk d) := by
  rcases Go.Deep.open_slice1 Try.underlying37 Try.cellsL h with ⟨hcs, hd⟩ | ⟨a, len', cap', m, n, V, D, Pl, hcs, _, hl, hm, hmm, hd, hx⟩
  · simp only [List.cons.injEq, Value.slice.injEq, and_true] at hcs
    obtain ⟨rfl, rfl, rfl⟩ := hcs
    exact ⟨[], rfl, fun i l hl => by simp at hl, by simp⟩
  · simp only [List.cons.injEq, Value.slice.injEq, and_true] at hcs
    obtain ⟨rfl, rfl, rfl⟩ := hcs
    simp only [if_true] at hmm
    simp only [Prod.mk.injEq] at hd
    have each : ∀ i, i < len → ∃ t : Option Addr × Nat × List RwM, W.cell? (a.add i) = some (.slice t.1 t.2.2.length t.2.1) ∧ RowsAt W t.1 t.2.2 ∧ (t.1 = none → t.2.2.length = 0 ∧ t.2.1 = 0) ∧ t.2.2.length ≤ Rows.uptoBulk (D i) := by
      intro i hi
      obtain ⟨h1, h2⟩ := hx i (by omega)
      have hs : ∃ x k c, V i = .slice x k c := by
        rcases Go.Deep.open_slice Try.underlying39 h2 with ⟨e, -⟩ | ⟨a2, l2, c2, m2, n2, D2, P2, e, -⟩
        · simp only [List.cons.injEq, and_true] at e
          exact ⟨_, _, _, e⟩
        · simp only [List.cons.injEq, and_true] at e
          exact ⟨_, _, _, e⟩
      obtain ⟨x, k, c, e⟩ := hs
      rw [e] at h1 h2
      obtain ⟨l, rfl, r1, r2, -⟩ := open_rows h2
      obtain ⟨l', e', -, r3⟩ := open_rowsU h2
      exact ⟨(x, c, l), h1, r1, r2, by rw [← e'] at r3; exact r3⟩
    obtain ⟨q, hq⟩ := Go.Deep.choose_lt each
    obtain ⟨e1, e2⟩ := list_of len fun i => (q i).2.2
    have hbk : Rows.uptoBulkAll ((List.range len).map D) ≤ Rows.uptoBulk d := by
      rw [hd.1]
      simp only [Rows.uptoBulk]
      omega
    refine ⟨(List.range len).map fun i => (q i).2.2, e1.symm, fun i l hi => ?_, ?_, ?_⟩
    · obtain ⟨hi', rfl⟩ := e2 i l hi
      obtain ⟨h0, h1, h2, -⟩ := hq i hi'
      obtain ⟨h00, -⟩ := hq 0 (by omega)
      obtain ⟨b, off, spot⟩ := a
      have hspot : spot = none := by simpa [Addr.add] using World.cell?_spot h00
      subst hspot
      rw [Go.WideShapes.add_plain] at h0
      exact ⟨b, off, _, _, rfl, World.block_lt_of_cell? W _ h0, h0, h1, h2⟩
    · exact Nat.le_trans (flat_bulk (fun i => (q i).2.2) D (List.range len) fun i hi => (hq i (List.mem_range.1 hi)).2.2.2) hbk
    · rw [e1]
      have := bulk_len ((List.range len).map D)
      simp only [List.length_map, List.length_range] at this
      omega
end Go.Proofs.Ytolaeiagfnhllaa
