/- What is proved: plain facts on a config's text cut at blanks and read setting by setting; no condition. -/
import Derived.Test.YtolooejcgdknnaaDoorCfP
import Derived.Test.YtolooejcgdknnaaDoorNoDb
namespace Go.Proofs.YtolooejcgdknnaaDoor
open Go.RowKit

theorem cutb_no {c : UInt8} {l : List UInt8} (h : c ∉ l) : cutb c l = (l, [], false) := by
  unfold cutb
  rw [if_pos]
  induction l with
  | nil => rfl
  | cons a l ih =>
    simp only [List.mem_cons, not_or] at h
    have := ih h.2
    have e : (a != c) = true := by simpa using fun e => h.1 e.symm
    unfold lead at this ⊢
    rw [List.takeWhile_cons, e]
    simp [this]
theorem cutb_at {c : UInt8} {l r : List UInt8} (h : c ∉ l) : cutb c (l ++ c :: r) = (l, r, true) := by
  have hl : lead (fun b => b != c) (l ++ c :: r) = l.length := by
    induction l with
    | nil => simp [lead]
    | cons a l ih =>
      simp only [List.mem_cons, not_or] at h
      have := ih h.2
      have e : (a != c) = true := by simpa using fun e => h.1 e.symm
      unfold lead at this ⊢
      rw [List.cons_append, List.takeWhile_cons, e]
      simp [this]
  unfold cutb
  rw [hl, if_neg (by simp), List.take_left', show l ++ c :: r = (l ++ [c]) ++ r by simp, List.drop_left' (by simp)]
  rfl
theorem cut_cases (c : UInt8) (l : List UInt8) : (c ∉ l) ∨ ∃ a r, c ∉ a ∧ l = a ++ c :: r := by
  induction l with
  | nil => exact .inl (by simp)
  | cons b l ih =>
    by_cases hb : b = c
    · subst hb; exact .inr ⟨[], l, by simp, rfl⟩
    · rcases ih with h | ⟨a, r, h1, rfl⟩
      · exact .inl (by simp [h]; exact fun e => hb e.symm)
      · exact .inr ⟨b :: a, r, by simp [h1]; exact fun e => hb e.symm, rfl⟩
/-- A text's pieces between the blanks. -/
def pcs : List UInt8 → List (List UInt8)
  | [] => [[]]
  | b :: l => if b = 32 then [] :: pcs l else match pcs l with
    | p :: ps => (b :: p) :: ps
    | [] => [[b]]
theorem pcs_no {l : List UInt8} (h : 32 ∉ l) : pcs l = [l] := by
  induction l with
  | nil => rfl
  | cons a l ih =>
    simp only [List.mem_cons, not_or] at h
    rw [pcs, if_neg (fun e => h.1 e.symm), ih h.2]
theorem pcs_at {a r : List UInt8} (h : 32 ∉ a) : pcs (a ++ 32 :: r) = a :: pcs r := by
  induction a with
  | nil => rw [List.nil_append, pcs, if_pos rfl]
  | cons b a ih =>
    simp only [List.mem_cons, not_or] at h
    rw [List.cons_append, pcs, if_neg (fun e => h.1 e.symm), ih h.2]
def nIdx (l : List UInt8) : Option Nat := if l = nmC 0 then some 0 else if l = nmC 1 then some 1 else if l = nmC 2 then some 2 else if l = nmC 3 then some 3 else if l = nmC 4 then some 4 else none
theorem nIdx_lt {l : List UInt8} {k : Nat} (h : nIdx l = some k) : k < 5 ∧ l = nmC k := by
  unfold nIdx at h
  repeat' (split at h)
  all_goals first | (cases h; exact ⟨by omega, by assumption⟩) | cases h
theorem nIdx_nm {k : Nat} (h : k < 5) : nIdx (nmC k) = some k := by
  have : k = 0 ∨ k = 1 ∨ k = 2 ∨ k = 3 ∨ k = 4 := by omega
  rcases this with rfl | rfl | rfl | rfl | rfl <;> rfl
/-- The place of the setting that a piece is, and its number. -/
def stg (p : List UInt8) : Option (Nat × Nat) := match numb (cutb 61 p).2.1 with
  | none => none
  | some n => match nIdx (cutb 61 p).1 with
    | none => none
    | some k => some (k, n)
theorem stg_lt {p : List UInt8} {k n : Nat} (h : stg p = some (k, n)) : k < 5 ∧ n ≤ 999999999999999 := by
  unfold stg at h
  split at h
  · cases h
  · rename_i n' hn
    split at h
    · cases h
    · rename_i k' hk
      cases h
      exact ⟨(nIdx_lt hk).1, by have := (numb_inv hn).2; omega⟩
/-- Which settings have come. -/
structure Sn where
  a : Bool
  b : Bool
  c : Bool
  d : Bool
  e : Bool
def Sn.at (s : Sn) : Nat → Bool
  | 0 => s.a
  | 1 => s.b
  | 2 => s.c
  | 3 => s.d
  | _ => s.e
def Sn.on (s : Sn) : Nat → Sn
  | 0 => { s with a := true }
  | 1 => { s with b := true }
  | 2 => { s with c := true }
  | 3 => { s with d := true }
  | _ => { s with e := true }
def Cg.put (x : Cg) (k : Nat) (n : Int) : Cg := match k with
  | 0 => { x with a := n }
  | 1 => { x with b := n }
  | 2 => { x with c := n }
  | 3 => { x with d := n }
  | _ => { x with e := n }
def sn0 : Sn := ⟨false, false, false, false, false⟩
def usC : Cg := ⟨4096, 8, 1048576, 0, 100⟩
/-- The settings of the pieces, one behind the other. -/
def rdP : List (List UInt8) → Cg → Sn → Option Cg
  | [], x, _ => some x
  | p :: ps, x, s => match stg p with
    | none => none
    | some (k, n) => if s.at k = true then none else rdP ps (x.put k n) (s.on k)
def rdC (l : List UInt8) : Option Cg := if l = [] then some usC else rdP (pcs l) usC sn0
def zC : Cg := ⟨0, 0, 0, 0, 0⟩
/-- What Parse answers. -/
def parseC (l : List UInt8) : Cg × Int := match rdC l with
  | none => (zC, 230)
  | some x => if chk x ≠ 0 then (zC, chk x) else (x, 0)
end Go.Proofs.YtolooejcgdknnaaDoor
