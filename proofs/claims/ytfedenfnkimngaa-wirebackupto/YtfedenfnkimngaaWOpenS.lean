/- What is proved: arguments of small bulk that are lists of numbers or of strings lie in memory as the walks ask it; no condition but the bulk's. -/
import Derived.Test.YtfedenfnkimngaaWOpenU
import Derived.Test.YtfedenfnkimngaaWBackM
namespace Go.Proofs.Ytfedenfnkimngaa
open Go.ChangeShapes Go.WideShapes Go.ChangeAt Go.RowKit

theorem Try.cellsI : Try.prog.cellsOf 3 = 1 := by kernel_rfl
theorem Try.cellsS : Try.prog.cellsOf 9 = 1 := by kernel_rfl
instance : Inhabited ByteArray := ⟨.empty⟩

theorem open_intsU {H : Type} {enc : TypeId × Value → H} {W : World} {fuel : Nat} {sa : Option Addr} {len cap : Nat} {d : DataW H} {p : List MemPlace}
    (h : DataW.trod enc Try.prog W 0 (fun _ => true) true fuel 45 [.slice sa len cap] = some (d, p)) : ∃ l : List Int, len = l.length ∧ (Rows.uptoBulk d ≤ 1048576 → IntsAt W sa l) ∧ l.length ≤ Rows.uptoBulk d := by
  rcases Go.Deep.open_slice1 Try.underlying45 Try.cellsI h with ⟨hcs, hd⟩ | ⟨a, len', cap', m, n, V, D, Pl, hcs, _, hl, hm, hmm, hd, hx⟩
  · simp only [List.cons.injEq, Value.slice.injEq, and_true] at hcs
    obtain ⟨rfl, rfl, rfl⟩ := hcs
    exact ⟨[], rfl, fun _ i x hx => by simp at hx, Nat.zero_le _⟩
  · simp only [List.cons.injEq, Value.slice.injEq, and_true] at hcs
    obtain ⟨rfl, rfl, rfl⟩ := hcs
    simp only [if_true] at hmm
    simp only [Prod.mk.injEq] at hd
    have each : ∀ i, i < len → ∃ x : Int, W.cell? (a.add i) = some (.int .i64 x) := by
      intro i hi
      obtain ⟨h1, h2⟩ := hx i (by omega)
      obtain ⟨x, e, _⟩ := DataW.trod_int Try.underlying3 h2
      simp only [List.cons.injEq, and_true] at e
      rw [e] at h1
      exact ⟨x, h1⟩
    obtain ⟨q, hq⟩ := Go.Deep.choose_lt each
    obtain ⟨e1, e2⟩ := list_of len q
    have hbk : len ≤ Rows.uptoBulk d := by
      rw [hd.1]
      simp only [Rows.uptoBulk]
      have := bulk_len ((List.range len).map D)
      simp only [List.length_map, List.length_range] at this
      omega
    refine ⟨(List.range len).map q, e1.symm, fun _ i x hi => ?_, by rw [e1]; exact hbk⟩
    obtain ⟨hi', rfl⟩ := e2 i x hi
    have h0 := hq i hi'
    have h00 := hq 0 (by omega)
    obtain ⟨b, off, spot⟩ := a
    have hspot : spot = none := by simpa [Addr.add] using World.cell?_spot h00
    subst hspot
    rw [Go.WideShapes.add_plain] at h0
    exact ⟨b, off, rfl, World.block_lt_of_cell? W _ h0, h0⟩

theorem bulk_strs {H : Type} (q : Nat → ByteArray) (D : Nat → DataW H) (l : List Nat) (h : ∀ i, i ∈ l → D i = .lit (.string (q i).data.toList)) : Rows.uptoBulkAll (l.map D) = tsum (l.map q) := by
  induction l with
  | nil => rfl
  | cons x r ih =>
    simp only [List.map_cons, Rows.uptoBulkAll, tsum]
    rw [ih (fun i hi => h i (by simp [hi])), h x (by simp)]
    simp only [Rows.uptoBulk]
    rw [Array.length_toList]
    rfl
theorem open_strsU {H : Type} {enc : TypeId × Value → H} {W : World} {fuel : Nat} {sa : Option Addr} {len cap : Nat} {d : DataW H} {p : List MemPlace}
    (h : DataW.trod enc Try.prog W 0 (fun _ => true) true fuel 46 [.slice sa len cap] = some (d, p)) : ∃ l : List ByteArray, len = l.length ∧ (Rows.uptoBulk d ≤ 1048576 → StrsAt W sa l) ∧ (tsum l ≤ Rows.uptoBulk d ∧ l.length ≤ Rows.uptoBulk d) := by
  rcases Go.Deep.open_slice1 Try.underlying46 Try.cellsS h with ⟨hcs, hd⟩ | ⟨a, len', cap', m, n, V, D, Pl, hcs, _, hl, hm, hmm, hd, hx⟩
  · simp only [List.cons.injEq, Value.slice.injEq, and_true] at hcs
    obtain ⟨rfl, rfl, rfl⟩ := hcs
    exact ⟨[], rfl, fun _ i x hx => by simp at hx, Nat.zero_le _, Nat.zero_le _⟩
  · simp only [List.cons.injEq, Value.slice.injEq, and_true] at hcs
    obtain ⟨rfl, rfl, rfl⟩ := hcs
    simp only [if_true] at hmm
    simp only [Prod.mk.injEq] at hd
    have each : ∀ i, i < len → ∃ x : ByteArray, W.cell? (a.add i) = some (.string x) ∧ D i = .lit (.string x.data.toList) := by
      intro i hi
      obtain ⟨h1, h2⟩ := hx i (by omega)
      obtain ⟨x, e, e', _⟩ := DataW.trod_string Try.underlying9 h2
      simp only [List.cons.injEq, and_true] at e
      rw [e] at h1
      simp only [Prod.mk.injEq] at e'
      exact ⟨x, h1, e'.1⟩
    obtain ⟨q, hq⟩ := Go.Deep.choose_lt each
    obtain ⟨e1, e2⟩ := list_of len q
    have hsum := bulk_strs q D (List.range len) (fun i hi => (hq i (List.mem_range.1 hi)).2)
    have hbk := bulk_len ((List.range len).map D)
    simp only [List.length_map, List.length_range] at hbk
    refine ⟨(List.range len).map q, e1.symm, fun _ i x hi => ?_, ?_, ?_⟩
    · obtain ⟨hi', rfl⟩ := e2 i x hi
      have h0 := (hq i hi').1
      have h00 := (hq 0 (by omega)).1
      obtain ⟨b, off, spot⟩ := a
      have hspot : spot = none := by simpa [Addr.add] using World.cell?_spot h00
      subst hspot
      rw [Go.WideShapes.add_plain] at h0
      exact ⟨b, off, rfl, World.block_lt_of_cell? W _ h0, h0⟩
    · rw [← hsum, hd.1]
      simp only [Rows.uptoBulk]
      omega
    · rw [e1, hd.1]
      simp only [Rows.uptoBulk]
      omega
end Go.Proofs.Ytfedenfnkimngaa
