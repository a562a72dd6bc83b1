/- What is proved: the number of trailing zeros of a word that is not 0, by the library's own text, where its table lies as its text lays it; what a search holds in memory. -/
import Derived.Test.YtbhihmkgimdjpaaDoorGhB
import Derived.Shelf.Spec.TrailingZeros
namespace Go.Proofs.YtbhihmkgimdjpaaDoor
open Go.RowKit

/-- The library's table lies in its variable. -/
def TabG (w : World) : Prop := 0 < w.heap.size ∧ ∀ j, j < 64 → w.cell? ⟨0, j, none⟩ = some (.int .u8 (Lib.deBruijn64tab.getD j 0 : Nat))
theorem TabG.on {w w' : World} (h : TabG w) (k : Kept w w') : TabG w' := ⟨Nat.lt_of_lt_of_le h.1 k.size, fun j hj => (k.cell (p := ⟨0, j, none⟩) h.1 (fun e => e)).trans (h.2 j hj)⟩
set_option maxRecDepth 100000 in
set_option maxHeartbeats 1000000 in
theorem tz_core (x k idx : Nat) (w : World) (hx0 : ((x : Int) == 0) = false)
    (key : IntKind.u64.wrap (bits BinOp.and IntKind.u64 (x : Int) (IntKind.u64.wrap (-(x : Int))) * 285870213051353865) / 288230376151711744 = (idx : Int))
    (hi : idx < 64) (hk : k < 64) (hcell : w.cell? ⟨0, idx, none⟩ = some (.int .u8 k)) :
    Calls Tryd.prog 52 #[.int .u64 x] w fun e w' => e = .returned (.int .i64 k) ∧ w' = w := by
  go_enter Tryd.func52, Tryd.ntmps52
  go_wp2_with (simp only [key])
  go_ret
  exact ⟨rfl, rfl⟩
theorem tz19 {x : Nat} (hx0 : x ≠ 0) (hx : x < 18446744073709551616) {w : World} (hT : TabG w) : Calls Tryd.prog 52 #[.int .u64 (x : Nat)] w fun e w' => (∃ k m : Nat, k < 64 ∧ x = 2 ^ k * (2 * m + 1) ∧ e = .returned (.int .i64 k)) ∧ w' = w := by
  obtain ⟨hlow, hk⟩ := Lib.lowest_bit 64 x hx0 hx
  obtain ⟨hi, htab⟩ := Lib.deBruijn64_at _ hk
  have hcell := hT.2 _ hi
  rw [htab] at hcell
  obtain ⟨m, hm, -⟩ := Lib.ctzFrom_spec 64 x (Nat.pos_of_ne_zero hx0) hx
  have hc : Lib.ctz 64 x = Lib.ctzFrom 64 x := by unfold Lib.ctz; rw [if_neg hx0]
  refine (tz_core x _ _ w (by simp; omega) (tz64_key x _ hx hx0 hlow) hi hk hcell).mono ?_
  rintro e w' ⟨rfl, rfl⟩
  exact ⟨⟨_, m, hk, by rw [hc]; exact hm, rfl⟩, rfl⟩
/-- Who came from where, as numbers. -/
def cv (c : Nat → Option Nat) (y : Nat) : Int := match c y with
  | none => -1
  | some x => (x : Int)
theorem cv_none {c : Nat → Option Nat} {y : Nat} : cv c y = -1 ↔ (c y).isSome = false := by
  unfold cv
  cases c y with
  | none => simp
  | some x => simp
def cL (n : Nat) (c : Nat → Option Nat) : List Int := (List.range n).map (cv c)
def qL (q : List Nat) : List Int := q.map fun (x : Nat) => (x : Int)
theorem cL_len (n : Nat) (c : Nat → Option Nat) : (cL n c).length = n := by simp [cL]
theorem cL_at {n : Nat} {c : Nat → Option Nat} {y : Nat} (h : y < n) : (cL n c)[y]? = some (cv c y) := by simp [cL, h]
theorem cL_set {n : Nat} {c c' : Nat → Option Nat} {y : Nat} {v : Int} (hy : cv c' y = v) (ho : ∀ z, z ≠ y → c' z = c z) : (cL n c).set y v = cL n c' := by
  apply List.ext_getElem?
  intro i
  rw [List.getElem?_set]
  by_cases e : y = i
  · subst e
    rw [if_pos rfl]
    by_cases h : y < n
    · rw [if_pos (by rw [cL_len]; exact h), cL_at h, hy]
    · rw [if_neg (by rw [cL_len]; exact h), List.getElem?_eq_none (by rw [cL_len]; omega)]
  · rw [if_neg e]
    by_cases h : i < n
    · rw [cL_at h, cL_at h]
      unfold cv
      rw [ho i (Ne.symm e)]
    · rw [List.getElem?_eq_none (by rw [cL_len]; omega), List.getElem?_eq_none (by rw [cL_len]; omega)]
theorem cL_rep (n : Nat) : List.replicate n (-1 : Int) = cL n (fun _ => none) := by
  apply List.ext_getElem?
  intro i
  by_cases h : i < n
  · rw [cL_at h, List.getElem?_replicate, if_pos h]; rfl
  · rw [List.getElem?_eq_none (by simp; omega), List.getElem?_eq_none (by rw [cL_len]; omega)]
theorem qL_len (q : List Nat) : (qL q).length = q.length := by simp [qL]
theorem qL_at {q : List Nat} {i x : Nat} (h : q[i]? = some x) : (qL q)[i]? = some (x : Int) := by simp [qL, h]
theorem qL_app (a b : List Nat) : qL (a ++ b) = qL a ++ qL b := by simp [qL]
/-- A search by breadth: k of the queue have been looked at. -/
inductive Rn (n : Nat) (A : Nat → Nat → Bool) (s : Nat) : Nat → (Nat → Option Nat) → List Nat → Prop
  | start : Rn n A s 0 (fun _ => none) [s]
  | step {k x : Nat} {c : Nat → Option Nat} {q : List Nat} : Rn n A s k c q → q[k]? = some x → Rn n A s (k + 1) (took A c x n) (q ++ newsTo A c x n)
theorem Rn.bf {n : Nat} {A : Nat → Nat → Bool} {s : Nat} (hA : ∀ a b, A a b = true → b < n) {k : Nat} {c : Nat → Option Nat} {q : List Nat} (h : Rn n A s k c q) : Bf n A s c q k := by
  induction h with
  | start => exact Bf.start s
  | step _ hx ih => exact ih.step hx hA
theorem took_ge {A : Nat → Nat → Bool} {c : Nat → Option Nat} {x u y : Nat} (h : u ≤ y) : took A c x u y = c y := by
  unfold took
  rw [decide_eq_false (by omega), Bool.false_and]
  rfl
theorem seen_step {A : Nat → Nat → Bool} {c : Nat → Option Nat} {x i wd sw : Nat} {sl : List Nat} (h : Wds sl (fun y => (took A c x (64 * i) y).isSome)) (hsw : sl[i]? = some sw) (hw : wd < 18446744073709551616) (hb : ∀ b, b < 64 → wd.testBit b = A x (64 * i + b)) : Wds (sl.set i (sw ||| wd)) (fun y => (took A c x (64 * (i + 1)) y).isSome) := fun j z hz => by
  rw [List.getElem?_set] at hz
  by_cases e : i = j
  · subst e
    rw [if_pos rfl] at hz
    split at hz
    · cases hz
      obtain ⟨h1, h2⟩ := h _ _ hsw
      exact seen_or hw h1 hb (fun b hb2 => by
        have h3 := h2 b hb2
        simp only at h3
        rw [h3, took_ge (by omega)])
    · cases hz
  · rw [if_neg e] at hz
    obtain ⟨h1, h2⟩ := h _ _ hz
    refine ⟨h1, fun b hb2 => ?_⟩
    rw [h2 b hb2]
    show (took A c x (64 * i) (64 * j + b)).isSome = (took A c x (64 * (i + 1)) (64 * j + b)).isSome
    unfold took
    by_cases e2 : 64 * j + b < 64 * i
    · rw [decide_eq_true e2, decide_eq_true (show 64 * j + b < 64 * (i + 1) by omega)]
    · rw [decide_eq_false e2, decide_eq_false (show ¬ 64 * j + b < 64 * (i + 1) by omega)]
theorem andn_bits (a b : Nat) : bits .andNot .u64 (a : Int) (b : Int) = ((andn a b : Nat) : Int) := by
  show IntKind.u64.wrap ((BitVec.ofInt 64 (a : Int) &&& ~~~BitVec.ofInt 64 (b : Int)).toNat : Int) = _
  rw [BitVec.ofInt_natCast, BitVec.ofInt_natCast, IntKind.wrap_u64]
  have := andn_lt a b
  unfold andn at this ⊢
  omega
theorem and_pred {f : Nat} (h0 : f ≠ 0) (h : f < 18446744073709551616) : bits .and .u64 (f : Int) (IntKind.u64.wrap ((f : Int) - 1)) = ((f &&& (f - 1) : Nat) : Int) := by
  have e : IntKind.u64.wrap ((f : Int) - 1) = ((f - 1 : Nat) : Int) := by rw [IntKind.wrap_u64]; omega
  rw [e]
  exact bits_and_u64_nat f (f - 1) h (by omega)
theorem and_pred_lt {f : Nat} (h0 : f ≠ 0) : f &&& (f - 1) < f := Nat.lt_of_le_of_lt Nat.and_le_right (by omega)
/-- What a search holds in memory. -/
structure Sr (w W : World) (H n gc gs g N : Nat) (v : Value) (c : Nat → Option Nat) (sl : List Nat) (q : List Nat) : Prop where
  c : OwnI w.heap.size W (.slice (some ⟨gc, 0, none⟩) n n) (cL n c)
  s : OwnW w.heap.size W (.slice (some ⟨gs, 0, none⟩) (wN n) (wN n)) sl
  sl : sl.length = wN n
  q : OwnI w.heap.size W v (qL q)
  ne : v.ownBlock ≠ some gc
  t : W.heap[H]? = some (tbO n g N N)
  k : Kept w W
theorem Sr.gs {w W : World} {H n gc gs g N : Nat} {v : Value} {c : Nat → Option Nat} {sl : List Nat} {q : List Nat} (h : Sr w W H n gc gs g N v c sl q) : gs ≠ gc ∧ (∀ b, v.ownBlock = some b → gs ≠ b ∧ H ≠ b) ∧ H ≠ gc ∧ H ≠ gs ∧ w.heap.size ≤ gc ∧ w.heap.size ≤ gs ∧ ∀ b, v.ownBlock = some b → w.heap.size ≤ b := by
  obtain ⟨l1, c1, h1⟩ := h.c.block (b := gc) rfl
  obtain ⟨l2, c2, h2⟩ := h.s.block (b := gs) rfl
  have h3 := h.t
  refine ⟨fun e => ?_, fun b hb => ⟨fun e => ?_, fun e => ?_⟩, fun e => ?_, fun e => ?_, l1, l2, fun b hb => (h.q.block hb).1⟩
  · rw [e, h1] at h2; cases h2
  · obtain ⟨-, c4, h4⟩ := h.q.block hb
    rw [e, h4] at h2; cases h2
  · obtain ⟨-, c4, h4⟩ := h.q.block hb
    rw [e, h4] at h3; cases h3
  · rw [e, h1] at h3; cases h3
  · rw [e, h2] at h3; cases h3
theorem Sr.on {w W W' : World} {H n gc gs g N : Nat} {v : Value} {c : Nat → Option Nat} {sl : List Nat} {q : List Nat} (h : Sr w W H n gc gs g N v c sl q) (k : Kept W W') : Sr w W' H n gc gs g N v c sl q :=
  ⟨h.c.on k, h.s.on k, h.sl, h.q.on k, h.ne, (k.block H (lt_of_heap h.t) (fun e => e)).trans h.t, h.k.trans' k⟩
theorem Sr.setC {w W : World} {H n gc gs g N : Nat} {v : Value} {c c' : Nat → Option Nat} {sl : List Nat} {q : List Nat} (h : Sr w W H n gc gs g N v c sl q) {y : Nat} (hy : y < n) {x : Int} (h1 : cv c' y = x) (h2 : ∀ z, z ≠ y → c' z = c z) : Sr w (W.setCell ⟨gc, y, none⟩ (.int .i64 x)) H n gc gs g N v c' sl q := by
  obtain ⟨g1, g2, g3, g4, g5, g6, g7⟩ := h.gs
  obtain ⟨o, s⟩ := h.c.set1 ekI (j := y) (by rw [cL_len]; exact hy) x rfl
  rw [cL_set h1 h2] at o
  exact ⟨o, h.s.kept s (fun b hb e => by cases hb; exact g1 e), h.sl, h.q.kept s (fun b hb e => by have e : b = gc := e; subst e; exact h.ne hb), h.ne, (s.block H (lt_of_heap h.t) g3).trans h.t, h.k.trans s (fun i hi e => by have e : i = gc := e; omega)⟩
theorem Sr.setS {w W : World} {H n gc gs g N : Nat} {v : Value} {c : Nat → Option Nat} {sl : List Nat} {q : List Nat} (h : Sr w W H n gc gs g N v c sl q) {i : Nat} (hi : i < wN n) (x : Nat) : Sr w (W.setCell ⟨gs, i, none⟩ (.int .u64 (x : Nat))) H n gc gs g N v c (sl.set i x) q := by
  obtain ⟨g1, g2, g3, g4, g5, g6, g7⟩ := h.gs
  obtain ⟨o, s⟩ := h.s.set1 ekU (j := i) (by rw [h.sl]; exact hi) x rfl
  exact ⟨h.c.kept s (fun b hb e => by cases hb; exact g1 (Eq.symm e)), o, by rw [List.length_set]; exact h.sl, h.q.kept s (fun b hb e => by have e : b = gs := e; exact (g2 b hb).1 e.symm), h.ne, (s.block H (lt_of_heap h.t) g4).trans h.t, h.k.trans s (fun i hi e => by have e : i = gs := e; omega)⟩
theorem Sr.app {w W : World} {H n gc gs g N : Nat} {v : Value} {c : Nat → Option Nat} {sl : List Nat} {q : List Nat} (h : Sr w W H n gc gs g N v c sl q) (hq : q.length ≤ 4000) {y gy : Nat} (hg : W.heap[gy]? = some (.cells #[.int .i64 (y : Int)] 3 (0, 0))) (ty : TypeId) :
    ∃ v' W', (Builtin.append_ #[41, 41] ty #[v, .slice (some ⟨gy, 0, none⟩) 1 1]).run Tryd.prog W = .ok v' W' ∧ Sr w W' H n gc gs g N v' c sl (q ++ [y]) := by
  obtain ⟨g1, g2, g3, g4, g5, g6, g7⟩ := h.gs
  have hy : At i1 1 W (some ⟨gy, 0, none⟩) [(y : Int)] := fun j x hx => by
    match j, hx with
    | 0, hx =>
      simp at hx
      subst hx
      exact ⟨gy, 0, rfl, lt_of_heap hg, fun c v hv => by
        rw [cell_of hg]
        match c, hv with
        | 0, hv => simpa using hv⟩
    | j + 1, hx => simp at hx
  obtain ⟨v', W', hr, o, s, hv⟩ := Own.app (ys := [(y : Int)]) ekI Tryd.underlying41 Tryd.infoInt rfl h.q hy (by simp) (by rw [qL_len]; show (q.length + 1 + (q.length + 1) / 4 + 192) * 8 ≤ _; omega) (by rw [qL_len]; show q.length + 1 ≤ _; unfold maxLen; omega) h.k.size (ty := ty) (c := 1)
  refine ⟨v', W', hr, ⟨h.c.kept s (fun b hb e => by cases hb; exact h.ne e), h.s.kept s (fun b hb e => by cases hb; exact (g2 gs e).1 rfl), h.sl, by rw [qL_app]; exact o, fun e => ?_, (s.block H (lt_of_heap h.t) (fun e => (g2 H e).2 rfl)).trans h.t, h.k.trans s (fun i hi e => by have := g7 i e; omega)⟩⟩
  rcases hv gc e with e2 | e2
  · exact h.ne e2
  · obtain ⟨-, c1, h1⟩ := h.c.block (b := gc) rfl
    have := lt_of_heap h1
    omega
end Go.Proofs.YtbhihmkgimdjpaaDoor
