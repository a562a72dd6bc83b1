/- What is proved: what the table of neighbours holds while the edges come in whatever order; no condition. -/
import Derived.Test.YtbhihmkgimdjpaaDoorGhT
namespace Go.Proofs.YtbhihmkgimdjpaaDoor
open Go.RowKit

theorem World.grownBy_of_same {w w' : World} {g : Nat} (h : Same (fun k => k = g) w w') : w.grownBy w' (some g) := ⟨h.os, h.tape, h.output, h.size, fun i hi hn => h.block i hi (fun e => hn (by rw [show i = g from e]))⟩
theorem World.grownBy_of_kept {w w' : World} (h : Kept w w') : w.grownBy w' none := ⟨h.os, h.tape, h.output, h.size, fun i hi _ => h.block i hi (fun e => e)⟩
/-- What an edge reads as, as a key. -/
noncomputable def kE (e : Eg) : Lit := (keyOf Tryd.prog 33 (egV e)).getD (.bool false)
theorem kE_some {e : Eg} (h : Eok e) : keyOf Tryd.prog 33 (egV e) = some (kE e) := by
  obtain ⟨kl, hk⟩ := keyE h
  unfold kE
  rw [hk]; rfl
theorem kE_of {e : Eg} {kl : Lit} (h : keyOf Tryd.prog 33 (egV e) = some kl) : kE e = kl := by unfold kE; rw [h]; rfl
set_option maxRecDepth 100000 in
theorem key_int {d : Nat} {v : Value} {l : List Lit} (h : Tryd.prog.keyLits d 3 [v] = some l) : ∃ n, v = .int .i64 n ∧ I64 n := by
  cases d with
  | zero => simp [Program.keyLits] at h
  | succ d =>
    unfold Program.keyLits at h
    rw [Tryd.underlying3] at h
    cases v with
    | int q n =>
      simp only at h
      split at h
      · rename_i hc
        obtain ⟨rfl, hw⟩ := hc
        exact ⟨n, rfl, hw⟩
      · cases h
    | _ => simp at h
set_option maxRecDepth 100000 in
theorem key_inv {key : Value} {kl : Lit} (h : keyOf Tryd.prog 33 key = some kl) : ∃ x : Eg, key = egV x ∧ Eok x := by
  obtain ⟨xs, L, rfl, hL, -⟩ := keyOf_top Tryd.wideE h
  unfold Program.keyLits at hL
  rw [Tryd.underlying33] at hL
  simp only at hL
  split at hL
  · rename_i hc
    have hl : xs.toList.length = 3 := hc.1.trans Tryd.cellsE
    obtain ⟨v0, v1, v2, e3⟩ : ∃ v0 v1 v2, xs.toList = [v0, v1, v2] := by
      match xs.toList, hl with
      | [a, b, c], _ => exact ⟨a, b, c, rfl⟩
    rw [e3] at hL
    simp only [List.mapM_cons, List.mapM_nil, Tryd.cellsI, List.drop, List.take] at hL
    cases h0 : Tryd.prog.keyLits Tryd.prog.types.size 3 [v0] with
    | none => rw [h0] at hL; cases hL
    | some l0 =>
      cases h1 : Tryd.prog.keyLits Tryd.prog.types.size 3 [v1] with
      | none => rw [h0, h1] at hL; cases hL
      | some l1 =>
        cases h2 : Tryd.prog.keyLits Tryd.prog.types.size 3 [v2] with
        | none => rw [h0, h1, h2] at hL; cases hL
        | some l2 =>
          obtain ⟨a, rfl, ha⟩ := key_int h0
          obtain ⟨b, rfl, hb⟩ := key_int h1
          obtain ⟨c, rfl, hc⟩ := key_int h2
          refine ⟨⟨a, b, c⟩, ?_, ⟨ha, hb, hc⟩⟩
          have : xs = #[.int .i64 a, .int .i64 b, .int .i64 c] := by
            apply Array.ext'
            rw [e3]
          rw [this]
  · cases hL
/-- Neighbours over the edges that have come. -/
noncomputable def adjL (p : Eg → Nat → Nat → Bool) (E : List Eg) (m : Int) (left : Lit → Bool) (a b : Nat) : Bool := E.any fun e => !left (kE e) && (p e a b && inM e.l m)
def pB (e : Eg) (a b : Nat) : Bool := decide (e.f = a) && decide (e.t = b)
def pA (e : Eg) (a b : Nat) : Bool := decide (e.t = a) && decide (e.f = b)
theorem adjL_end {p : Eg → Nat → Nat → Bool} {E : List Eg} {m : Int} {left : Lit → Bool} (h : ∀ k, left k = false) (a b : Nat) : adjL p E m left a b = E.any fun e => p e a b && inM e.l m := by
  simp [adjL, h]
theorem adjL_start {p : Eg → Nat → Nat → Bool} {E : List Eg} {m : Int} {left : Lit → Bool} (h : ∀ e ∈ E, left (kE e) = true) (a b : Nat) : adjL p E m left a b = false := by
  unfold adjL
  rw [List.any_eq_false]
  intro e he
  simp [h e he]
theorem adjL_step {p : Eg → Nat → Nat → Bool} {E : List Eg} {m : Int} {left : Lit → Bool} (hE : ∀ e ∈ E, Eok e) {x : Eg} (hx : x ∈ E) {kl : Lit} (hk : keyOf Tryd.prog 33 (egV x) = some kl) (a b : Nat) :
    adjL p E m (fun z => left z && !z.sameKey kl) a b = (adjL p E m left a b || (p x a b && inM x.l m)) := by
  have hs : ∀ e ∈ E, (kE e).sameKey kl = decide (e = x) := fun e he => by
    by_cases e2 : e = x
    · subst e2
      rw [kE_of hk, decide_eq_true rfl]
      exact WideAt.sameKey_self (Tryd.keyedE.key hk)
    · rw [decide_eq_false e2]
      cases h9 : (kE e).sameKey kl
      · rfl
      · exact absurd (key_inj (by rw [kE_some (hE e he), WideAt.sameKey_eq h9]) hk) e2
  rw [Bool.eq_iff_iff, Bool.or_eq_true]
  simp only [adjL, List.any_eq_true]
  constructor
  · rintro ⟨e, he, h9⟩
    rw [hs e he] at h9
    by_cases e2 : e = x
    · subst e2
      simp only [Bool.and_eq_true] at h9
      exact .inr (by simpa using h9.2)
    · left
      refine ⟨e, he, ?_⟩
      simpa [e2] using h9
  · rintro (⟨e, he, h9⟩ | h9)
    · refine ⟨e, he, ?_⟩
      simp only [Bool.and_eq_true, Bool.not_eq_true'] at h9
      simp only [h9.1, Bool.false_and, Bool.not_false, Bool.true_and, Bool.and_eq_true]
      exact h9.2
    · refine ⟨x, hx, ?_⟩
      rw [hs x hx, decide_eq_true rfl]
      simpa using h9
theorem pB_end (E : List Eg) (m : Int) (a b : Nat) : (E.any fun e => pB e a b && inM e.l m) = adj E m a b := rfl
theorem pA_end (E : List Eg) (m : Int) (a b : Nat) : (E.any fun e => pA e a b && inM e.l m) = jda E m a b := rfl
theorem pB_val (a b : Nat) (l : Int) (p q : Nat) : pB ⟨(a : Int), (b : Int), l⟩ p q = (decide (p = a) && decide (q = b)) := by
  unfold pB
  congr 1 <;> (apply decide_eq_decide.2; simp only; omega)
theorem pA_val (a b : Nat) (l : Int) (p q : Nat) : pA ⟨(a : Int), (b : Int), l⟩ p q = (decide (p = b) && decide (q = a)) := by
  unfold pA
  congr 1 <;> (apply decide_eq_decide.2; simp only; omega)
/-- What stands while a table is filled. -/
structure Tf (p : Eg → Nat → Nat → Bool) (w W : World) (n mb r g : Nat) (E : List Eg) (m : Int) (D : DataW Value) (left : Lit → Bool) (ct : Nat) : Prop where
  rg : W.ranges Tryd.prog 33 unitElem mb r (Go.Maps.size D) D left ct
  tb : ∃ l, OwnW w.heap.size W (.slice (some ⟨g, 0, none⟩) (n * wN n) (n * wN n)) l ∧ l.length = n * wN n ∧ Tbl (wN n) l (adjL p E m left)
  kept : Kept w W
end Go.Proofs.YtbhihmkgimdjpaaDoor
