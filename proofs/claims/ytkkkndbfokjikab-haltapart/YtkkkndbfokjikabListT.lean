/- What is proved: what Child and an append leave of a tree of stops and of a list of its stops that the caller keeps; nothing below a given block turns. -/
import Derived.Test.YtkkkndbfokjikabOneT
namespace Go.Proofs.Ytkkkndbfokjikab
open Go.Conc Go.RowKit

/-- A tree in memory, its beats within bounds, closed, from block lo on. -/
structure Sy (lo : Nat) (w : World) (T : Tr) : Prop where
  h : Holds 0 w T
  rng : Rng T.left T.n
  cl : Closed T.par T.cause T.n
  lo : ∀ k, Foot T k → lo ≤ k
/-- A list that the caller keeps, apart from the tree. -/
structure Ls (lo : Nat) (w : World) (T : Tr) (lv : Value) (n : Nat) (xs : List Value) : Prop where
  row : w.ownsRow 0 24 1 lv n xs
  ap : ∀ k, lv.ownBlock = some k → lo ≤ k ∧ ¬ Foot T k

theorem Sy.below {lo : Nat} {w w' : World} {T : Tr} (y : Sy lo w T) (s : Same (Foot T) w w') : Below lo w w' := one_lo y.h y.lo s
theorem Sy.size {lo : Nat} {w : World} {T : Tr} (y : Sy lo w T) : lo ≤ w.heap.size := by have := y.lo _ (.inl rfl); have := y.h.lt (.inl rfl); omega
/-- What a call on the tree leaves of the list. -/
theorem Ls.kept {lo : Nat} {w w' : World} {T T' : Tr} {lv : Value} {n : Nat} {xs : List Value} (l : Ls lo w T lv n xs) (s : Same (Foot T) w w') (hf : ∀ k, Foot T' k → Foot T k ∨ w.heap.size ≤ k) : Ls lo w' T' lv n xs where
  row := row_kept l.row fun k hk => s.block k (l.row.lt k hk).2 (l.ap k hk).2
  ap k hk := ⟨(l.ap k hk).1, fun h => by
    rcases hf k h with h | h
    · exact (l.ap k hk).2 h
    · have := (l.row.lt k hk).2; omega⟩
/-- What an append to the list leaves of both. -/
theorem sl_append {lo : Nat} {w w' : World} {T : Tr} {lv lv' : Value} {n : Nat} {xs : List Value} {x : Value} (y : Sy lo w T) (l : Ls lo w T lv n xs)
    (hg : (w.alloc (.cells #[x] 24)).grownBy w' lv.ownBlock) (hown : w'.ownsRow 0 24 1 lv' (n + 1) (xs ++ [x])) (hat : lv'.ownBlock = lv.ownBlock ∨ lv'.ownBlock = some (w.alloc (.cells #[x] 24)).heap.size) :
    Sy lo w' T ∧ Ls lo w' T lv' (n + 1) (xs ++ [x]) ∧ Below lo w w' := by
  have hs : Same (fun k => lv.ownBlock = some k) w w' := ((Same.refl _ w).alloc _).trans' ⟨hg.os, hg.tape, hg.output, hg.size, fun k hk hn => hg.block k hk fun e => hn e.symm⟩
  refine ⟨⟨y.h.kept hs fun k hk hl => (l.ap k hl).2 hk, y.rng, y.cl, y.lo⟩, ⟨hown, fun k hk => ?_⟩, hs.below y.size fun k hk => (l.ap k hk).1⟩
  rcases hat with h | h
  · exact l.ap k (h ▸ hk)
  · rw [h] at hk
    simp at hk
    have := y.size
    exact ⟨by omega, fun hf => by have := y.h.lt hf; omega⟩

theorem closed_kid {T : Tr} {m : Int} {w : World} (h : Holds m w T) (hc : Closed T.par T.cause T.n) {i : Nat} (hi : i < T.n) : Closed (upd T.par T.n (some i)) (upd T.cause T.n (born (T.cause i))) (T.n + 1) := by
  intro k p hk hp hq
  by_cases e : k = T.n
  · subst e
    rw [upd_same] at hp ⊢
    cases hp
    rw [upd_other _ _ (by omega)] at hq
    simp [born, hq]
  · rw [upd_other _ _ e] at hp ⊢
    have hpk := h.par k p (by omega) hp
    rw [upd_other _ _ (by omega)] at hq
    exact hc k p (by omega) hp hq
theorem rng_kid {left : Nat → Int} {n : Nat} (hr : Rng left n) {b : Int} (h0 : 0 ≤ b) (h1 : b ≤ 1099511627776) : Rng (upd left n b) (n + 1) := by
  intro k hk
  by_cases e : k = n
  · subst e; rw [upd_same]; exact ⟨h0, h1⟩
  · rw [upd_other _ _ e]; exact hr k (by omega)

theorem sy_child {lo : Nat} {T : Tr} (w : World) (y : Sy lo w T) (i : Nat) (hi : i < T.n) (b : Int) (h0 : 0 ≤ b) (h1 : b ≤ 1099511627776) (hn : T.n < 256) :
    Calls Try.prog 15 #[.pointer (some ⟨T.blk i, 0, none⟩), .int .i64 b] w fun e w' => e = .returned (.tuple #[.pointer (some ⟨w.heap.size + 1, 0, none⟩), .int .i64 0]) ∧
      ∃ sv, Sy lo w' (kidTr T i b (born (T.cause i)) sv (w.heap.size + 1) w.heap.size) ∧ (∀ k, Foot (kidTr T i b (born (T.cause i)) sv (w.heap.size + 1) w.heap.size) k → Foot T k ∨ w.heap.size ≤ k) ∧ Same (Foot T) w w' := by
  refine (child_yes w y.h i hi b h0 h1 hn).mono ?_
  rintro e w1 ⟨rfl, sv, k1, k2, k3⟩
  have hf := fun k => foot_kid (T := T) (i := i) (beats := b) (c := born (T.cause i)) (sv := sv) (b := w.heap.size + 1) (ch := w.heap.size) k2 (Nat.le_succ _) (Nat.le_refl _) k
  refine ⟨rfl, sv, ⟨k1, rng_kid y.rng h0 h1, closed_kid y.h y.cl hi, fun k hk => ?_⟩, hf, k3⟩
  rcases hf k hk with h | h
  · exact y.lo k h
  · have := y.size; omega

theorem row_at {w : World} {g n cap : Nat} {xs : List Value} {base : Nat} {e : TypeId} (h : w.ownsRow base e 1 (.slice (some ⟨g, 0, none⟩) n cap) n xs) {i : Nat} {u : Value} (hi : xs[i]? = some u) : w.cell? ⟨g, i, none⟩ = some u := by
  have := h.cells (g := g) rfl i _ hi
  have hadd : (⟨g, 0, none⟩ : Addr).add i = ⟨g, i, none⟩ := by unfold Addr.add; split <;> simp_all
  rwa [hadd] at this
theorem row_one (w : World) (x : Value) (e : TypeId) : (w.alloc (.cells #[x] e)).ownsRow 0 e 1 (.slice (some ⟨w.heap.size, 0, none⟩) 1 1) 1 [x] :=
  ⟨rfl, .inr ⟨w.heap.size, 1, #[x], rfl, Nat.zero_le _, heap_alloc_new w _, Nat.le_refl _, by unfold maxLen; omega, rfl, rfl⟩⟩

/-- A slice's length. -/
def slen : Value → Nat
  | .slice _ n _ => n
  | _ => 0

theorem zero_mem_up (par : Nat → Option Nat) (n : Nat) (hp : ∀ k p, k < n → par k = some p → p < k) (hs : ∀ k, 0 < k → k < n → ∃ p, par k = some p) : ∀ f a, a < f → a < n → 0 ∈ up par f a := by
  intro f
  induction f with
  | zero => intro a h; omega
  | succ f ih =>
    intro a ha hn
    rw [up]
    by_cases e : a = 0
    · subst e; exact List.mem_cons_self ..
    · obtain ⟨p, hpar⟩ := hs a (by omega) hn
      have := hp a p hn hpar
      rw [hpar]
      exact List.mem_cons_of_mem _ (ih p (by omega) (by omega))
theorem spent_full (par : Nat → Option Nat) (left : Nat → Int) (n i : Nat) (hi : i < n) (hp : ∀ k p, k < n → par k = some p → p < k) (hl : ∀ k, k < n → left k ≠ 0) : spent par left i = none := by
  cases h : spent par left i with
  | none => rfl
  | some a =>
    obtain ⟨h1, h2⟩ := spent_some par left i a h
    exact absurd h1 (hl a (by have := up_le par n hp (i + 1) i hi a h2; omega))
end Go.Proofs.Ytkkkndbfokjikab
