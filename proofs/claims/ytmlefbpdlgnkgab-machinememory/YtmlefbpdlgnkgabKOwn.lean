/- What is proved: plain facts: reads and deletes of a transaction, and what other sessions' steps keep of it; no condition. -/
import Derived.Test.YtmlefbpdlgnkgabKFree
namespace Go.Proofs.Ytmlefbpdlgnkgab
open Go.RowKit

theorem plM_ok {n : Nat} (l : List Stp) {M : Mm} (h : Ok n M) : Ok n (plM M l) := by
  induction l generalizing M with
  | nil => exact h
  | cons s r ih => exact ih (h.step s)
theorem freeB_true {M : Mm} (h : freeB M = true) : (M.at 3).act = none ∧ M.clock < 549755813888 ∧ M.log.length < 4000 := by
  unfold freeB at h
  simp only [Bool.and_eq_true, Bool.not_eq_true', decide_eq_true_eq] at h
  refine ⟨?_, h.1.2, h.2⟩
  have h1 := h.1.1
  cases e : (M.at 3).act with
  | none => rfl
  | some a => rw [e] at h1; cases h1
theorem Sx.of {n : Nat} {M : Mm} (h : Ok n M) : Sx n M M.clock M.A M.log.length (fun j => (M.at j).act) := ⟨h, rfl, rfl, rfl, fun _ => rfl⟩
theorem Sx.read {N : Nat} {M : Mm} {c : Int} {A : List En} {n : Nat} {S : Nat → Option Ac} (h : Sx N M c A n S) {i : Nat} {a : Ac} {k : ByteArray} (hs : S i = some a) (ho : a.t.ops.length ≠ 16) (hk : 0 < k.size ∧ k.size ≤ 8) (hc : c < 1099511627776) {B : Bool} {V : ByteArray} (e : seeM (M.tick (M.clock + 1)) a.t k = (B, V)) : ∃ M', doM M ⟨2, i, 0, k, e0⟩ = (M', ⟨B, V, 0⟩) ∧ codeD M ⟨2, i, 0, k, e0⟩ = 0 ∧ Sx N M' (c + 1) A n (up S i (some (addO a (c + 1) ⟨1, k, B, V⟩))) := by
  have ha : (M.at i).act = some a := (h.act i).trans hs
  have hil := at_lt ha
  have hcd : codeD M ⟨2, i, 0, k, e0⟩ = 0 := by
    rw [code_at ⟨by decide, by decide⟩ hil (fun _ => hk) (fun h => by cases h) (fun h => by cases h) (fun _ => ⟨a, ha, fun _ => ho⟩), h.clock, if_neg (by omega)]
  have e1 : doM M ⟨2, i, 0, k, e0⟩ = (operM (M.tick (M.clock + 1)) i a ⟨1, k, B, V⟩, ⟨B, V, 0⟩) := by
    rw [do_ok0 hcd rfl, go_read (M := M.tick (M.clock + 1)) ha, e]
  refine ⟨_, e1, hcd, by have h9 := h.ok.step ⟨2, i, 0, k, e0⟩; rw [e1] at h9; exact h9, by rw [← h.clock]; rfl, h.A, h.log, fun j => ?_⟩
  show ((operM (M.tick (M.clock + 1)) i a ⟨1, k, B, V⟩).at j).act = _
  rw [at_oper (M := M.tick (M.clock + 1)) hil]
  unfold up
  split
  · rw [← h.clock]; rfl
  · exact h.act j
theorem Sx.del {N : Nat} {M : Mm} {c : Int} {A : List En} {n : Nat} {S : Nat → Option Ac} (h : Sx N M c A n S) {i : Nat} {a : Ac} {k : ByteArray} (hs : S i = some a) (ho : a.t.ops.length ≠ 16) (hk : 0 < k.size ∧ k.size ≤ 8) (hc : c < 1099511627776) : ∃ M', doM M ⟨4, i, 0, k, e0⟩ = (M', an0) ∧ codeD M ⟨4, i, 0, k, e0⟩ = 0 ∧ Sx N M' (c + 1) A n (up S i (some (addO a (c + 1) ⟨3, k, false, e0⟩))) := by
  have ha : (M.at i).act = some a := (h.act i).trans hs
  have hil := at_lt ha
  have hcd : codeD M ⟨4, i, 0, k, e0⟩ = 0 := by
    rw [code_at ⟨by decide, by decide⟩ hil (fun _ => hk) (fun h => by cases h) (fun h => by cases h) (fun _ => ⟨a, ha, fun _ => ho⟩), h.clock, if_neg (by omega)]
  have e1 : doM M ⟨4, i, 0, k, e0⟩ = (operM (M.tick (M.clock + 1)) i a ⟨3, k, false, e0⟩, an0) := by
    rw [do_ok0 hcd rfl]
    exact go_del (M := M.tick (M.clock + 1)) ha
  refine ⟨_, e1, hcd, by have h9 := h.ok.step ⟨4, i, 0, k, e0⟩; rw [e1] at h9; exact h9, by rw [← h.clock]; rfl, h.A, h.log, fun j => ?_⟩
  show ((operM (M.tick (M.clock + 1)) i a ⟨3, k, false, e0⟩).at j).act = _
  rw [at_oper (M := M.tick (M.clock + 1)) hil]
  unfold up
  split
  · rw [← h.clock]; rfl
  · exact h.act j
/-- The clock has come to its end. -/
theorem Sx.full {N : Nat} {M : Mm} {c : Int} {A : List En} {n : Nat} {S : Nat → Option Ac} (h : Sx N M c A n S) {kd : Int} {i : Nat} {a : Ac} {k : ByteArray} (hkd : kd = 2 ∨ kd = 4) (hs : S i = some a) (ho : a.t.ops.length ≠ 16) (hk : 0 < k.size ∧ k.size ≤ 8) (hc : ¬ c < 1099511627776) : doM M ⟨kd, i, 0, k, e0⟩ = (M, an0) ∧ codeD M ⟨kd, i, 0, k, e0⟩ = 154 := by
  have ha : (M.at i).act = some a := (h.act i).trans hs
  have hcd : codeD M ⟨kd, i, 0, k, e0⟩ = 154 := by
    rw [code_at (by omega) (at_lt ha) (fun _ => hk) (fun h => by omega) (fun h => by omega) (fun _ => ⟨a, ha, fun _ => ho⟩), h.clock, if_pos (by omega)]
  exact ⟨do_no (by rw [hcd]; decide), hcd⟩
theorem see_own {M : Mm} {t : TxM} {k : ByteArray} {l : List OpM} {o : OpM} (h : t.ops = l ++ [o]) (h1 : o.key = k) (h2 : o.kind ≠ 1) : seeM M t k = (o.found, o.value) := by
  unfold seeM
  rw [h, lastW_snoc, if_pos (isW_self h1 h2)]
  simp only [List.getD_eq_getElem?_getD, List.getElem?_append_right (Nat.le_refl _), Nat.sub_self, List.getElem?_cons_zero, Option.getD_some]
/-- What a step of another session keeps. -/
theorem other_at {M : Mm} {s : Stp} {j : Nat} (h : s.ses ≠ (j : Int)) : ((doM M s).1.at j).act = (M.at j).act := by
  rcases do_rel M s with h1 | h1
  · rw [h1]
  · rw [h1.at_ne h]
end Go.Proofs.Ytmlefbpdlgnkgab
