/- What is proved: what reads do to the plain device of DeviceNth, whose two faults wait for the nth read of one block; no condition. -/
import Derived.Test.YtipfoognpenafaaDSet
namespace Go.Proofs.Ytipfoognpenafaa
open Go.RowKit

def fN (at' nth : Nat) : List Fl := [⟨1, at', nth, 0⟩, ⟨2, at', nth, 0⟩]
/-- The plain device of DeviceNth: r1, r2: reads of block at' of the two regions; c: strokes; at most kk counts. -/
structure NI (at' nth : Nat) (m : M) (r1 r2 c kk : Nat) : Prop where
  B : m.B = 16
  S : m.S = 4
  inp : m.inp.length = 64
  scr : m.scr.length = 64
  down : m.down = false
  F : m.F = fN at' nth
  R1 : m.R 1 at' = r1
  R2 : m.R 2 at' = r2
  cT : m.cT = c
  k : m.k ≤ kk

theorem hits1 (at' nth : Nat) (b : Int) (n : Nat) : Hits (fN at' nth) 1 b n = (decide (b = at') && decide (n = nth)) := by
  by_cases h1 : b = at' <;> by_cases h2 : n = nth
  · subst h1 h2; simp [Hits, fN]
  · have : ¬ (nth : Int) = n := by omega
    simp [Hits, fN, this, h2]
  · have : ¬ (at' : Int) = b := fun e => h1 e.symm
    simp [Hits, fN, this, h1]
  · have : ¬ (at' : Int) = b := fun e => h1 e.symm
    simp [Hits, fN, this, h1]
theorem hits2 (at' nth : Nat) (b : Int) (n : Nat) : Hits (fN at' nth) 2 b n = (decide (b = at') && decide (n = nth)) := by
  by_cases h1 : b = at' <;> by_cases h2 : n = nth
  · subst h1 h2; simp [Hits, fN]
  · have : ¬ (nth : Int) = n := by omega
    simp [Hits, fN, this, h2]
  · have : ¬ (at' : Int) = b := fun e => h1 e.symm
    simp [Hits, fN, this, h1]
  · have : ¬ (at' : Int) = b := fun e => h1 e.symm
    simp [Hits, fN, this, h1]

theorem ni_in_other {at' nth : Nat} {m : M} {r1 r2 c kk : Nat} (h : NI at' nth m r1 r2 c kk) (b : Int) (hb : b ≠ at') : (0 ≤ b → b < 4 → (m.readIn b).1 = 0) ∧ NI at' nth (m.readIn b).2.2 r1 r2 c (kk + 3) := by
  have hh : Hits m.F 1 b (m.R 1 b + 1) = false := by rw [h.F, hits1, decide_eq_false hb]; rfl
  have hn : nblk m.inp.length m.B = 4 := by rw [h.inp, h.B]; rfl
  unfold M.readIn M.readR
  rw [if_neg (by rw [h.down]; decide), hn]
  by_cases ho : b < 0 ∨ ((4 : Nat) : Int) ≤ b
  · rw [if_pos ho]
    exact ⟨fun _ _ => by omega, ⟨h.B, h.S, h.inp, h.scr, h.down, h.F, h.R1, h.R2, h.cT, Nat.le_add_right_of_le h.k⟩⟩
  · rw [if_neg ho, if_neg (by rw [hh]; decide)]
    exact ⟨fun _ _ => rfl, ⟨h.B, h.S, h.inp, h.scr, h.down, h.F, (bump_other _ _ _ (fun e => hb e.2.symm)).trans h.R1, (bump_other m.R 1 b (r' := 2) (b' := at') (fun e => absurd e.1 (by decide))).trans h.R2, h.cT, by have := h.k; show m.k + 1 + 1 ≤ _; omega⟩⟩
theorem ni_sc_other {at' nth : Nat} {m : M} {r1 r2 c kk : Nat} (h : NI at' nth m r1 r2 c kk) (b : Int) (hb : b ≠ at') : (0 ≤ b → b < 4 → (m.readSc b).1 = 0) ∧ NI at' nth (m.readSc b).2.2 r1 r2 c (kk + 3) := by
  have hh : Hits m.F 2 b (m.R 2 b + 1) = false := by rw [h.F, hits2, decide_eq_false hb]; rfl
  unfold M.readSc M.readR
  rw [if_neg (by rw [h.down]; decide), h.S]
  by_cases ho : b < 0 ∨ ((4 : Nat) : Int) ≤ b
  · rw [if_pos ho]
    exact ⟨fun _ _ => by omega, ⟨h.B, h.S, h.inp, h.scr, h.down, h.F, h.R1, h.R2, h.cT, Nat.le_add_right_of_le h.k⟩⟩
  · rw [if_neg ho, if_neg (by rw [hh]; decide)]
    exact ⟨fun _ _ => rfl, ⟨h.B, h.S, h.inp, h.scr, h.down, h.F, (bump_other m.R 2 b (r' := 1) (b' := at') (fun e => absurd e.1 (by decide))).trans h.R1, (bump_other _ _ _ (fun e => hb e.2.symm)).trans h.R2, h.cT, by have := h.k; show m.k + 1 + 1 ≤ _; omega⟩⟩
theorem ni_in_hit {at' nth : Nat} {m : M} {r1 r2 c kk : Nat} (h : NI at' nth m r1 r2 c kk) (ha : at' < 4) (hr : r1 + 1 = nth) : (m.readIn at').1 = 37 ∧ (m.readIn at').2.1 = [] ∧ NI at' nth (m.readIn at').2.2 (r1 + 1) r2 (c + 1) (kk + 3) := by
  have hh : Hits m.F 1 at' (m.R 1 at' + 1) = true := by rw [h.F, hits1, h.R1, hr]; simp
  have hn : nblk m.inp.length m.B = 4 := by rw [h.inp, h.B]; rfl
  unfold M.readIn M.readR
  rw [if_neg (by rw [h.down]; decide), hn, if_neg (by omega), if_pos hh]
  exact ⟨rfl, rfl, ⟨h.B, h.S, h.inp, h.scr, h.down, h.F, (bump_same _ _ _).trans (by rw [← h.R1]; rfl), (bump_other m.R 1 at' (r' := 2) (b' := at') (fun e => absurd e.1 (by decide))).trans h.R2, by have := h.cT; show m.cT + 1 = _; omega, by have := h.k; show m.k + 1 + 1 + 1 ≤ _; omega⟩⟩
theorem ni_in_ok {at' nth : Nat} {m : M} {r1 r2 c kk : Nat} (h : NI at' nth m r1 r2 c kk) (ha : at' < 4) (hr : r1 + 1 ≠ nth) : (m.readIn at').1 = 0 ∧ (m.readIn at').2.1.length = 16 ∧ NI at' nth (m.readIn at').2.2 (r1 + 1) r2 c (kk + 3) := by
  have hh : Hits m.F 1 at' (m.R 1 at' + 1) = false := by rw [h.F, hits1, h.R1, decide_eq_false hr]; simp
  have hn : nblk m.inp.length m.B = 4 := by rw [h.inp, h.B]; rfl
  unfold M.readIn M.readR
  rw [if_neg (by rw [h.down]; decide), hn, if_neg (by omega), if_neg (by rw [hh]; decide)]
  refine ⟨rfl, ?_, ⟨h.B, h.S, h.inp, h.scr, h.down, h.F, (bump_same _ _ _).trans (by rw [← h.R1]; rfl), (bump_other m.R 1 at' (r' := 2) (b' := at') (fun e => absurd e.1 (by decide))).trans h.R2, h.cT, by have := h.k; show m.k + 1 + 1 ≤ _; omega⟩⟩
  show (cut m.B m.inp at').length = 16
  rw [length_cut, h.B, h.inp]
  omega
theorem ni_sc_hit {at' nth : Nat} {m : M} {r1 r2 c kk : Nat} (h : NI at' nth m r1 r2 c kk) (ha : at' < 4) (hr : r2 + 1 = nth) : (m.readSc at').1 = 37 ∧ (m.readSc at').2.1 = [] ∧ NI at' nth (m.readSc at').2.2 r1 (r2 + 1) (c + 1) (kk + 3) := by
  have hh : Hits m.F 2 at' (m.R 2 at' + 1) = true := by rw [h.F, hits2, h.R2, hr]; simp
  unfold M.readSc M.readR
  rw [if_neg (by rw [h.down]; decide), h.S, if_neg (by omega), if_pos hh]
  exact ⟨rfl, rfl, ⟨h.B, h.S, h.inp, h.scr, h.down, h.F, (bump_other m.R 2 at' (r' := 1) (b' := at') (fun e => absurd e.1 (by decide))).trans h.R1, (bump_same _ _ _).trans (by rw [← h.R2]; rfl), by have := h.cT; show m.cT + 1 = _; omega, by have := h.k; show m.k + 1 + 1 + 1 ≤ _; omega⟩⟩
theorem ni_sc_ok {at' nth : Nat} {m : M} {r1 r2 c kk : Nat} (h : NI at' nth m r1 r2 c kk) (ha : at' < 4) (hr : r2 + 1 ≠ nth) : (m.readSc at').1 = 0 ∧ (m.readSc at').2.1.length = 16 ∧ NI at' nth (m.readSc at').2.2 r1 (r2 + 1) c (kk + 3) := by
  have hh : Hits m.F 2 at' (m.R 2 at' + 1) = false := by rw [h.F, hits2, h.R2, decide_eq_false hr]; simp
  unfold M.readSc M.readR
  rw [if_neg (by rw [h.down]; decide), h.S, if_neg (by omega), if_neg (by rw [hh]; decide)]
  refine ⟨rfl, ?_, ⟨h.B, h.S, h.inp, h.scr, h.down, h.F, (bump_other m.R 2 at' (r' := 1) (b' := at') (fun e => absurd e.1 (by decide))).trans h.R1, (bump_same _ _ _).trans (by rw [← h.R2]; rfl), h.cT, by have := h.k; show m.k + 1 + 1 ≤ _; omega⟩⟩
  show (cut m.B m.scr at').length = 16
  rw [length_cut, h.B, h.scr]
  omega
end Go.Proofs.Ytipfoognpenafaa
