/- What is proved: 'highestSpent' finds, of a stop and those above it, the one without beats that is nearest to the first; nothing turns; the tree lies in memory. -/
import Derived.Test.YtkkkndbfokjikabStopT
namespace Go.Proofs.Ytkkkndbfokjikab
open Go.Conc Go.RowKit Go.MuLone

/-- A stop's pointer, or nil. -/
def ptrO (T : Tr) (o : Option Nat) : Value := .pointer (o.map fun a => ⟨T.blk a, 0, none⟩)
theorem ptrO_none (T : Tr) : ptrO T none = .pointer none := rfl
theorem ptrO_some (T : Tr) (a : Nat) : ptrO T (some a) = .pointer (some ⟨T.blk a, 0, none⟩) := rfl

/-- One more than the number of the stop that a pointer points to. -/
def rank (T : Tr) : Value → Nat
  | .pointer (some a) => ((List.range T.n).find? (fun i => T.blk i == a.block)).elim 0 (· + 1)
  | _ => 0
theorem rank_at {m : Int} {w : World} {T : Tr} (h : Holds m w T) {i : Nat} (hi : i < T.n) : rank T (.pointer (some ⟨T.blk i, 0, none⟩)) = i + 1 := by
  have : (List.range T.n).find? (fun j => T.blk j == T.blk i) = some i := by
    rw [List.find?_range_eq_some]
    refine ⟨by simp, by simpa using hi, fun j hj => ?_⟩
    have : T.blk j ≠ T.blk i := fun e => by have := h.bi j i (by omega) hi e; omega
    simp [this]
  simp [rank, this]
theorem rank_lt {m : Int} {w : World} {T : Tr} (h : Holds m w T) {a : Nat} (ha : a < T.n) : rank T (ptrO T (T.par a)) < rank T (ptrO T (some a)) := by
  rw [ptrO_some, rank_at h ha]
  cases hp : T.par a with
  | none => simp [ptrO_none, rank]
  | some p =>
    have := h.par a p ha hp
    rw [ptrO_some, rank_at h (by omega)]
    omega


set_option maxRecDepth 100000 in
set_option maxHeartbeats 800000 in
theorem highestSpent_any {m : Int} {T : Tr} (w : World) (h : Holds m w T) (i : Nat) (hi : i < T.n) :
    Calls Try.prog 24 #[.pointer (some ⟨T.blk i, 0, none⟩)] w fun e w' => e = .returned (ptrO T (spent T.par T.left i)) ∧ w' = w := by
  go_enter Try.func24, Try.ntmps24
  go_wp2
  go_loop [3, 4] (fun s a => ∃ (acc cur : Option Nat) (f : Nat), s = ptrO T acc ∧ a = ptrO T cur ∧ (∀ x, cur = some x → x < f ∧ x < T.n) ∧ (upo T.par f cur).foldl (spentS T.left) acc = spent T.par T.left i) (fun _ a => rank T a)
  case atStart => exact ⟨none, some i, i + 1, rfl, rfl, fun x hx => by cases hx; exact ⟨by omega, hi⟩, rfl⟩
  case round =>
    obtain ⟨acc, cur, f, rfl, rfl, hx, hf⟩ := hrel
    cases cur with
    | none =>
      have hf' : acc = spent T.par T.left i := hf
      subst hf'
      clear hf
      simp only [ptrO_none]
      go_wp2
      go_ret
      exact ⟨rfl, rfl⟩
    | some a =>
      obtain ⟨haf, han⟩ := hx a rfl
      obtain ⟨f, rfl⟩ : ∃ f', f = f' + 1 := ⟨f - 1, by omega⟩
      rw [upo_succ, List.foldl_cons] at hf
      have Hf : Hid _ := hf
      have HX : Hid (∀ x, T.par a = some x → x < f ∧ x < T.n) := fun x hx => by have := h.par a x han hx; omega
      have HR : Hid _ := rank_lt h han
      clear hf hx
      obtain ⟨-, h1, h2, -, -⟩ := h.cells han
      have h1' : w.cell? ⟨T.blk a, 1, none⟩ = some (ptrO T (T.par a)) := h1
      clear h1
      simp only [ptrO_some]
      by_cases hz : (T.left a == 0) = true
      · have Hs : Hid (spentS T.left acc a = some a) := by show spentS _ _ _ = _; simp only [spentS, hz, if_true]
        go_wp2
        go_round
        case rel => exact ⟨some a, T.par a, f, rfl, rfl, HX.out, by rw [← Hs.out]; exact Hf.out⟩
        case measure => exact HR.out
      · have hz' : (T.left a == 0) = false := by simpa using hz
        have Hs : Hid (spentS T.left acc a = acc) := by show spentS _ _ _ = _; simp only [spentS, hz', if_false, Bool.false_eq_true]
        clear hz
        go_wp2
        go_round
        case rel => exact ⟨acc, T.par a, f, rfl, rfl, HX.out, by rw [← Hs.out]; exact Hf.out⟩
        case measure => exact HR.out
end Go.Proofs.Ytkkkndbfokjikab
