/- What is proved: plain facts on labelled graphs, on the bits of a word and on a search by breadth; no condition. -/
import Derived.Test.YtbhihmkgimdjpaaDoorDBase
namespace Go.Proofs.YtbhihmkgimdjpaaDoor

/-- An edge. -/
structure Eg where
  f : Int
  t : Int
  l : Int
deriving DecidableEq
/-- Is the label in the mask? -/
def inM (l m : Int) : Bool := decide (m / 2 ^ (l - 1).toNat % 2 = 1)
/-- An edge that a graph of n nodes takes. -/
structure EFit (n : Nat) (e : Eg) : Prop where
  f0 : 0 ≤ e.f
  fn : e.f < n
  t0 : 0 ≤ e.t
  tn : e.t < n
  l1 : 1 ≤ e.l
  l8 : e.l ≤ 8
/-- Neighbours over edges of the mask. -/
def adj (E : List Eg) (m : Int) (a b : Nat) : Bool := E.any fun e => decide (e.f = a) && decide (e.t = b) && inM e.l m
/-- The same, the other way. -/
def jda (E : List Eg) (m : Int) (a b : Nat) : Bool := E.any fun e => decide (e.t = a) && decide (e.f = b) && inM e.l m
theorem adj_iff {E : List Eg} {m : Int} {a b : Nat} : adj E m a b = true ↔ ∃ e ∈ E, e.f = a ∧ e.t = b ∧ inM e.l m = true := by
  simp [adj, List.any_eq_true, and_assoc]
theorem jda_iff {E : List Eg} {m : Int} {a b : Nat} : jda E m a b = true ↔ ∃ e ∈ E, e.t = a ∧ e.f = b ∧ inM e.l m = true := by
  simp [jda, List.any_eq_true, and_assoc]
theorem jda_adj (E : List Eg) (m : Int) (a b : Nat) : jda E m a b = adj E m b a := by
  rw [Bool.eq_iff_iff, jda_iff, adj_iff]
  constructor
  · rintro ⟨e, h1, h2, h3, h4⟩; exact ⟨e, h1, h3, h2, h4⟩
  · rintro ⟨e, h1, h2, h3, h4⟩; exact ⟨e, h1, h3, h2, h4⟩
/-- A way of one step at least. -/
inductive Way (A : Nat → Nat → Bool) : Nat → Nat → Prop
  | one {a b : Nat} : A a b = true → Way A a b
  | more {a b c : Nat} : Way A a b → A b c = true → Way A a c
theorem Way.trans {A : Nat → Nat → Bool} {a b c : Nat} (h : Way A a b) (k : Way A b c) : Way A a c := by
  induction k with
  | one e => exact .more h e
  | more _ e ih => exact .more ih e
theorem Way.head {A : Nat → Nat → Bool} {a b c : Nat} (h : A a b = true) (k : Way A b c) : Way A a c := (Way.one h).trans k
theorem Way.flip {A B : Nat → Nat → Bool} (hf : ∀ a b, A a b = true → B b a = true) {a b : Nat} (h : Way A a b) : Way B b a := by
  induction h with
  | one e => exact .one (hf _ _ e)
  | more _ e ih => exact .head (hf _ _ e) ih
theorem Way.mono {A B : Nat → Nat → Bool} (hf : ∀ a b, A a b = true → B a b = true) {a b : Nat} (h : Way A a b) : Way B a b := by
  induction h with
  | one e => exact .one (hf _ _ e)
  | more _ e ih => exact .more ih (hf _ _ e)
theorem way_jda {E : List Eg} {m : Int} {a b : Nat} : Way (jda E m) a b ↔ Way (adj E m) b a :=
  ⟨Way.flip fun a b h => by rwa [jda_adj] at h, Way.flip fun a b h => by rwa [jda_adj]⟩
theorem Way.last {A : Nat → Nat → Bool} {a b : Nat} (h : Way A a b) : ∃ x, A x b = true := by
  cases h with
  | one e => exact ⟨_, e⟩
  | more _ e => exact ⟨_, e⟩
theorem Way.first {A : Nat → Nat → Bool} {a b : Nat} (h : Way A a b) : ∃ x, A a x = true := by
  induction h with
  | one e => exact ⟨_, e⟩
  | more _ _ ih => exact ih

/-! bits -/
/-- x without the bits of y, of 64 bits. -/
def andn (x y : Nat) : Nat := (BitVec.ofNat 64 x &&& ~~~BitVec.ofNat 64 y).toNat
theorem andn_lt (x y : Nat) : andn x y < 18446744073709551616 := BitVec.isLt _
theorem andn_bit {x y b : Nat} (hb : b < 64) : (andn x y).testBit b = (x.testBit b && !y.testBit b) := by
  have e : (andn x y).testBit b = (BitVec.ofNat 64 x &&& ~~~BitVec.ofNat 64 y).getLsbD b := rfl
  rw [e, BitVec.getLsbD_and, BitVec.getLsbD_not, BitVec.getLsbD_ofNat, BitVec.getLsbD_ofNat]
  simp [hb]
theorem bit_out {x : Nat} (hx : x < 18446744073709551616) {b : Nat} (hb : 64 ≤ b) : x.testBit b = false :=
  Nat.testBit_lt_two_pow (Nat.lt_of_lt_of_le hx (by rw [show 18446744073709551616 = 2 ^ 64 from rfl]; exact Nat.pow_le_pow_right (by decide) hb))
/-- A number with a lowest set bit k: what stays when it is taken out. -/
theorem low_bits (k m j : Nat) : (2 ^ k * (2 * m + 1)).testBit j = (decide (k ≤ j) && (2 * m + 1).testBit (j - k)) := by
  rw [Nat.mul_comm, Nat.testBit_mul_two_pow]
theorem pred_low (k m : Nat) : 2 ^ k * (2 * m + 1) - 1 = 2 ^ (k + 1) * m + (2 ^ k - 1) := by
  have := Nat.two_pow_pos k
  rw [Nat.mul_add, Nat.mul_one, Nat.pow_succ, Nat.mul_assoc]
  omega
theorem drop_low {x k m : Nat} (hx : x = 2 ^ k * (2 * m + 1)) (j : Nat) : (x &&& (x - 1)).testBit j = (x.testBit j && decide (j ≠ k)) := by
  rw [Nat.testBit_and]
  by_cases hj : j < k
  · have : x.testBit j = false := by rw [hx, low_bits]; simp [Nat.not_le.2 hj]
    rw [this]; simp
  · by_cases hk : j = k
    · subst hk
      have : (x - 1).testBit j = false := by
        rw [hx, pred_low, Nat.testBit_two_pow_mul_add _ (by have := Nat.two_pow_pos j; rw [Nat.pow_succ]; omega), if_pos (Nat.lt_succ_self j)]
        exact Nat.testBit_lt_two_pow (by have := Nat.two_pow_pos j; omega)
      rw [this]; simp
    · have h1 : j ≥ k + 1 := by omega
      have e1 : (x - 1).testBit j = x.testBit j := by
        rw [hx, pred_low, Nat.testBit_two_pow_mul_add _ (by have := Nat.two_pow_pos k; rw [Nat.pow_succ]; omega), if_neg (by omega), low_bits]
        obtain ⟨i, rfl⟩ : ∃ i, j = k + 1 + i := ⟨j - (k + 1), by omega⟩
        have e2 : k + 1 + i - (k + 1) = i := by omega
        have e3 : k + 1 + i - k = i + 1 := by omega
        rw [e2, e3, Nat.testBit_succ, show (2 * m + 1) / 2 = m by omega]
        simp [show k ≤ k + 1 + i by omega]
      rw [e1]; simp [hk]
theorem low_set {x k m : Nat} (hx : x = 2 ^ k * (2 * m + 1)) : x.testBit k = true ∧ ∀ j, j < k → x.testBit j = false := by
  refine ⟨?_, fun j hj => ?_⟩
  · rw [hx, low_bits]; simp
  · rw [hx, low_bits]; simp [Nat.not_le.2 hj]
theorem no_bits {x : Nat} (hx : x < 18446744073709551616) (h : ∀ b, b < 64 → x.testBit b = false) : x = 0 := by
  apply Nat.eq_of_testBit_eq
  intro i
  rw [Nat.zero_testBit]
  by_cases hi : i < 64
  · exact h i hi
  · exact bit_out hx (by omega)

/-! the search -/
section
variable (n : Nat) (A : Nat → Nat → Bool)
/-- What x finds anew. -/
def new1 (c : Nat → Option Nat) (x y : Nat) : Bool := A x y && (c y).isNone
/-- The new ones below u. -/
def newsTo (c : Nat → Option Nat) (x u : Nat) : List Nat := (List.range u).filter (new1 A c x)
/-- Who came from where, behind the new ones below u. -/
def took (c : Nat → Option Nat) (x u : Nat) : Nat → Option Nat := fun y => if decide (y < u) && new1 A c x y then some x else c y
theorem newsTo_succ {c : Nat → Option Nat} {x y : Nat} (h : new1 A c x y = true) : newsTo A c x (y + 1) = newsTo A c x y ++ [y] := by
  simp [newsTo, List.range_succ, List.filter_append, h]
theorem newsTo_skip {c : Nat → Option Nat} {x u : Nat} : ∀ {v : Nat}, u ≤ v → (∀ y, u ≤ y → y < v → new1 A c x y = false) → newsTo A c x v = newsTo A c x u
  | 0, h, _ => by rw [Nat.le_zero.1 h]
  | v + 1, h, hn => by
    by_cases e : u = v + 1
    · rw [e]
    · have : newsTo A c x (v + 1) = newsTo A c x v := by simp [newsTo, List.range_succ, List.filter_append, hn v (by omega) (by omega)]
      rw [this]
      exact newsTo_skip (by omega) fun y h1 h2 => hn y h1 (by omega)
theorem mem_newsTo {c : Nat → Option Nat} {x u y : Nat} : y ∈ newsTo A c x u ↔ y < u ∧ new1 A c x y = true := by simp [newsTo]
theorem newsTo_nodup (c : Nat → Option Nat) (x u : Nat) : (newsTo A c x u).Nodup := List.Nodup.sublist List.filter_sublist List.nodup_range
theorem newsTo_zero (c : Nat → Option Nat) (x : Nat) : newsTo A c x 0 = [] := rfl
theorem took_zero (c : Nat → Option Nat) (x : Nat) : took A c x 0 = c := by funext y; simp [took]
theorem took_skip {c : Nat → Option Nat} {x u v : Nat} (h : u ≤ v) (hn : ∀ y, u ≤ y → y < v → new1 A c x y = false) : took A c x v = took A c x u := by
  funext y
  unfold took
  by_cases e : y < u
  · simp [e, Nat.lt_of_lt_of_le e h]
  · by_cases e2 : y < v
    · simp [e, hn y (by omega) e2]
    · simp [e, e2]
theorem took_succ {c : Nat → Option Nat} {x y : Nat} (h : new1 A c x y = true) : took A c x (y + 1) = fun z => if z = y then some x else took A c x y z := by
  funext z
  unfold took
  by_cases e : z = y
  · subst e; simp [h]
  · rw [if_neg e]
    by_cases e2 : z < y
    · simp [e2, Nat.lt_succ_of_lt e2]
    · simp [e2, show ¬ z < y + 1 by omega]
/-- What the search keeps: k of the queue have been looked at. -/
structure Bf (s : Nat) (c : Nat → Option Nat) (q : List Nat) (k : Nat) : Prop where
  le : k ≤ q.length
  L : ∃ L, q = s :: L ∧ L.Nodup ∧ ∀ y, y ∈ L ↔ (c y).isSome = true
  out : ∀ y, (c y).isSome = true → y < n
  from_ : ∀ y x, c y = some x → A x y = true ∧ ∃ i, i < k ∧ q[i]? = some x
  done : ∀ i x y, i < k → q[i]? = some x → A x y = true → (c y).isSome = true
  way : ∀ y, (c y).isSome = true → Way A s y
variable {n A}
theorem Bf.start (s : Nat) : Bf n A s (fun _ => none) [s] 0 :=
  ⟨Nat.zero_le _, ⟨[], rfl, List.nodup_nil, fun y => by simp⟩, fun y h => by simp at h, fun y x h => by simp at h, fun i x y h => by omega, fun y h => by simp at h⟩
theorem took_some {c : Nat → Option Nat} {x u y : Nat} : (took A c x u y).isSome = true ↔ (c y).isSome = true ∨ (y < u ∧ new1 A c x y = true) := by
  unfold took
  by_cases e : (decide (y < u) && new1 A c x y) = true
  · rw [if_pos e]; simp at e; simp [e]
  · rw [if_neg e]; simp at e
    constructor
    · intro h; exact .inl h
    · rintro (h | ⟨h1, h2⟩)
      · exact h
      · rw [e h1] at h2; cases h2
theorem Bf.step {s : Nat} {c : Nat → Option Nat} {q : List Nat} {k x : Nat} (h : Bf n A s c q k) (hx : q[k]? = some x) (hA : ∀ a b, A a b = true → b < n) : Bf n A s (took A c x n) (q ++ newsTo A c x n) (k + 1) := by
  have hk : k < q.length := (List.getElem?_eq_some_iff.1 hx).1
  have hxs : x = s ∨ (c x).isSome = true := by
    obtain ⟨L, e, -, h2⟩ := h.L
    subst e
    have := List.mem_of_getElem? hx
    rcases List.mem_cons.1 this with e | e
    · exact .inl e
    · exact .inr ((h2 x).1 e)
  have hw : ∀ y, A x y = true → Way A s y := fun y hy => by
    rcases hxs with rfl | e
    · exact .one hy
    · exact .more (h.way x e) hy
  refine ⟨by rw [List.length_append]; omega, ?_, ?_, ?_, ?_, ?_⟩
  · obtain ⟨L, e, h1, h2⟩ := h.L
    refine ⟨L ++ newsTo A c x n, by rw [e]; rfl, ?_, fun y => ?_⟩
    · rw [List.nodup_append]
      refine ⟨h1, newsTo_nodup A c x n, fun a ha b hb e => ?_⟩
      subst e
      have h3 := (mem_newsTo A).1 hb
      have h4 := (h2 a).1 ha
      simp [new1] at h3
      rw [h3.2.2] at h4
      cases h4
    · rw [List.mem_append, h2, mem_newsTo, took_some]
  · intro y hy
    rcases took_some.1 hy with e | e
    · exact h.out y e
    · exact e.1
  · intro y z hz
    unfold took at hz
    split at hz
    · rename_i e
      cases hz
      simp [new1] at e
      exact ⟨e.2.1, k, by omega, by rw [List.getElem?_append_left hk]; exact hx⟩
    · obtain ⟨a, i, hi, hq⟩ := h.from_ y z hz
      exact ⟨a, i, by omega, by rw [List.getElem?_append_left (by omega)]; exact hq⟩
  · intro i z y hi hz hy
    rw [List.getElem?_append_left (by omega)] at hz
    by_cases e : i < k
    · exact took_some.2 (.inl (h.done i z y e hz hy))
    · obtain rfl : i = k := by omega
      rw [hx] at hz
      cases hz
      by_cases e2 : (c y).isSome = true
      · exact took_some.2 (.inl e2)
      · refine took_some.2 (.inr ⟨hA _ _ hy, ?_⟩)
        simp [new1, hy]
        simpa using e2
  · intro y hy
    rcases took_some.1 hy with e | ⟨-, e⟩
    · exact h.way y e
    · simp [new1] at e
      exact hw y e.1
theorem Bf.bound {s : Nat} {c : Nat → Option Nat} {q : List Nat} {k : Nat} (h : Bf n A s c q k) : q.length ≤ n + 1 := by
  obtain ⟨L, rfl, h1, h2⟩ := h.L
  have : L.length ≤ (List.range n).length := h1.length_le_of_subset fun y hy => List.mem_range.2 (h.out y ((h2 y).1 hy))
  rw [List.length_range] at this
  rw [List.length_cons]
  omega
theorem Bf.node {s : Nat} {c : Nat → Option Nat} {q : List Nat} {k : Nat} (h : Bf n A s c q k) (hs : s < n) {i x : Nat} (hx : q[i]? = some x) : x < n := by
  obtain ⟨L, rfl, h1, h2⟩ := h.L
  rcases List.mem_cons.1 (List.mem_of_getElem? hx) with e | e
  · omega
  · exact h.out x ((h2 x).1 e)
/-- At the end: come to is what a way leads to. -/
theorem Bf.all {s : Nat} {c : Nat → Option Nat} {q : List Nat} (h : Bf n A s c q q.length) {y : Nat} : (c y).isSome = true ↔ Way A s y := by
  refine ⟨h.way y, fun w => ?_⟩
  have hm : ∀ x, x = s ∨ (c x).isSome = true → ∃ i, i < q.length ∧ q[i]? = some x := fun x hx => by
    obtain ⟨L, e, h1, h2⟩ := h.L
    have : x ∈ q := by
      rw [e, List.mem_cons]
      rcases hx with hx | hx
      · exact .inl hx
      · exact .inr ((h2 x).2 hx)
    obtain ⟨i, hi, e2⟩ := List.mem_iff_getElem.1 this
    exact ⟨i, hi, by rw [List.getElem?_eq_getElem hi, e2]⟩
  induction w with
  | one e =>
    obtain ⟨i, hi, hq⟩ := hm _ (.inl rfl)
    exact h.done i _ _ hi hq e
  | more _ e ih =>
    obtain ⟨i, hi, hq⟩ := hm _ (.inr ih)
    exact h.done i _ _ hi hq e
end
/-- Words that hold the sets of a table: W words a row. -/
def Tbl (W : Nat) (l : List Nat) (A : Nat → Nat → Bool) : Prop := ∀ (i x : Nat), l[i]? = some x → x < 18446744073709551616 ∧ ∀ b, b < 64 → x.testBit b = A (i / W) (64 * (i % W) + b)
/-- Words that hold a set. -/
def Wds (l : List Nat) (S : Nat → Bool) : Prop := ∀ (i x : Nat), l[i]? = some x → x < 18446744073709551616 ∧ ∀ b, b < 64 → x.testBit b = S (64 * i + b)
theorem Tbl.zero (W m : Nat) : Tbl W (List.replicate m 0) (fun _ _ => false) := fun i x h => by
  have := List.eq_of_mem_replicate (List.mem_of_getElem? h)
  subst this
  exact ⟨by decide, fun b _ => by simp⟩
theorem Wds.zero (m : Nat) : Wds (List.replicate m 0) (fun _ => false) := fun i x h => by
  have := List.eq_of_mem_replicate (List.mem_of_getElem? h)
  subst this
  exact ⟨by decide, fun b _ => by simp⟩
theorem bit_or {x b y : Nat} : (x ||| 2 ^ b).testBit y = (x.testBit y || decide (y = b)) := by
  rw [Nat.testBit_or, Nat.testBit_two_pow]
  by_cases e : b = y
  · subst e; simp
  · simp [e, Ne.symm e]
theorem or_lt {x b : Nat} (hx : x < 18446744073709551616) (hb : b < 64) : x ||| 2 ^ b < 18446744073709551616 :=
  Nat.or_lt_two_pow (n := 64) hx (Nat.pow_lt_pow_right (by decide) hb)
theorem Wds.put {l : List Nat} {S : Nat → Bool} (h : Wds l S) {y x : Nat} (hx : l[y / 64]? = some x) : Wds (l.set (y / 64) (x ||| 2 ^ (y % 64))) (fun z => S z || decide (z = y)) := fun i u hu => by
  rw [List.getElem?_set] at hu
  by_cases e : y / 64 = i
  · subst e
    rw [if_pos rfl] at hu
    split at hu
    · cases hu
      obtain ⟨h1, h2⟩ := h _ _ hx
      refine ⟨or_lt h1 (Nat.mod_lt _ (by decide)), fun b hb => ?_⟩
      rw [bit_or, h2 b hb]
      congr 1
      apply decide_eq_decide.2
      omega
    · cases hu
  · rw [if_neg e] at hu
    obtain ⟨h1, h2⟩ := h _ _ hu
    refine ⟨h1, fun b hb => ?_⟩
    rw [h2 b hb]
    show S (64 * i + b) = (S (64 * i + b) || decide (64 * i + b = y))
    rw [show decide (64 * i + b = y) = false from decide_eq_false (by omega), Bool.or_false]
theorem Tbl.put {W : Nat} {l : List Nat} {A : Nat → Nat → Bool} (h : Tbl W l A) {a y x : Nat} (hy : y / 64 < W) (hx : l[a * W + y / 64]? = some x) : Tbl W (l.set (a * W + y / 64) (x ||| 2 ^ (y % 64))) (fun p q => A p q || (decide (p = a) && decide (q = y))) := fun i u hu => by
  have d1 : (a * W + y / 64) / W = a := by rw [Nat.mul_comm, Nat.mul_add_div (by omega), Nat.div_eq_of_lt hy, Nat.add_zero]
  have d2 : (a * W + y / 64) % W = y / 64 := by rw [Nat.mul_comm, Nat.mul_add_mod, Nat.mod_eq_of_lt hy]
  rw [List.getElem?_set] at hu
  by_cases e : a * W + y / 64 = i
  · subst e
    rw [if_pos rfl] at hu
    split at hu
    · cases hu
      obtain ⟨h1, h2⟩ := h _ _ hx
      refine ⟨or_lt h1 (Nat.mod_lt _ (by decide)), fun b hb => ?_⟩
      rw [bit_or, h2 b hb, d1, d2]
      simp only [decide_true, Bool.true_and]
      congr 1
      apply decide_eq_decide.2
      omega
    · cases hu
  · rw [if_neg e] at hu
    obtain ⟨h1, h2⟩ := h _ _ hu
    refine ⟨h1, fun b hb => ?_⟩
    have : (decide (i / W = a) && decide (64 * (i % W) + b = y)) = false := by
      rw [Bool.and_eq_false_iff]
      by_cases e1 : i / W = a
      · right
        apply decide_eq_false
        intro e2
        apply e
        have e3 : i % W = y / 64 := by omega
        rw [← e3, ← e1, Nat.mul_comm]
        exact Nat.div_add_mod i W
      · exact .inl (decide_eq_false e1)
    rw [h2 b hb]
    show A (i / W) (64 * (i % W) + b) = (A (i / W) (64 * (i % W) + b) || (decide (i / W = a) && decide (64 * (i % W) + b = y)))
    rw [this, Bool.or_false]
theorem Tbl.row {W : Nat} {l : List Nat} {A : Nat → Nat → Bool} (h : Tbl W l A) {a j x : Nat} (hj : j < W) (hx : l[a * W + j]? = some x) : x < 18446744073709551616 ∧ ∀ b, b < 64 → x.testBit b = A a (64 * j + b) := by
  have d1 : (a * W + j) / W = a := by rw [Nat.mul_comm, Nat.mul_add_div (by omega), Nat.div_eq_of_lt hj, Nat.add_zero]
  have d2 : (a * W + j) % W = j := by rw [Nat.mul_comm, Nat.mul_add_mod, Nat.mod_eq_of_lt hj]
  obtain ⟨h1, h2⟩ := h _ _ hx
  rw [d1, d2] at h2
  exact ⟨h1, h2⟩
theorem Tbl.congr {W : Nat} {l : List Nat} {A B : Nat → Nat → Bool} (h : Tbl W l A) (e : ∀ a b, A a b = B a b) : Tbl W l B := by
  have : A = B := funext fun a => funext fun b => e a b
  rwa [← this]
theorem Wds.congr {l : List Nat} {S T : Nat → Bool} (h : Wds l S) (e : ∀ a, S a = T a) : Wds l T := by
  have : S = T := funext e
  rwa [← this]
/-- How many words. -/
def wN (n : Nat) : Nat := (n + 63) / 64
theorem wN_lt {n y : Nat} (h : y < n) : y / 64 < wN n := by unfold wN; omega
theorem wN_le {n : Nat} (h : n ≤ 1024) : wN n ≤ 16 := by unfold wN; omega
theorem row_le {n a : Nat} (h : a < n) : a * wN n + wN n ≤ n * wN n := by
  have := Nat.mul_le_mul_right (wN n) (show a + 1 ≤ n from h)
  rwa [Nat.add_mul, Nat.one_mul] at this
theorem tab_le {n : Nat} (h : n ≤ 1024) : n * wN n ≤ 16384 := by
  have := Nat.mul_le_mul h (wN_le h)
  omega
/-- A bit, read by a shift. -/
theorem bit_read {x b : Nat} : (x / 2 ^ b % 2 = 1) ↔ x.testBit b = true := by
  rw [Nat.testBit_eq_decide_div_mod_eq, decide_eq_true_iff]
/-- One row of the search: what is still to be looked at of word i, from node u on. -/
structure Fr (A : Nat → Nat → Bool) (c : Nat → Option Nat) (x i u fresh : Nat) : Prop where
  lt : fresh < 18446744073709551616
  bits : ∀ b, b < 64 → fresh.testBit b = (decide (u ≤ 64 * i + b) && new1 A c x (64 * i + b))
theorem Fr.start {A : Nat → Nat → Bool} {c : Nat → Option Nat} {x i word sw : Nat} (hb : ∀ b, b < 64 → word.testBit b = A x (64 * i + b)) (hs : ∀ b, b < 64 → sw.testBit b = (c (64 * i + b)).isSome) : Fr A c x i (64 * i) (andn word sw) :=
  ⟨andn_lt _ _, fun b hb2 => by
    rw [andn_bit hb2, hb b hb2, hs b hb2, show decide (64 * i ≤ 64 * i + b) = true from decide_eq_true (by omega), Bool.true_and, new1]
    cases c (64 * i + b) <;> simp⟩
theorem Fr.next {A : Nat → Nat → Bool} {c : Nat → Option Nat} {x i u fresh k m : Nat} (h : Fr A c x i u fresh) (hk : k < 64) (hx : fresh = 2 ^ k * (2 * m + 1)) :
    u ≤ 64 * i + k ∧ new1 A c x (64 * i + k) = true ∧ (∀ y, u ≤ y → y < 64 * i + k → 64 * i ≤ u → new1 A c x y = false) ∧ Fr A c x i (64 * i + k + 1) (fresh &&& (fresh - 1)) := by
  obtain ⟨l1, l2⟩ := low_set hx
  have hb := h.bits k hk
  rw [l1] at hb
  have hb := hb.symm
  rw [Bool.and_eq_true, decide_eq_true_iff] at hb
  refine ⟨hb.1, hb.2, fun y h1 h2 h3 => ?_, ⟨Nat.lt_of_le_of_lt Nat.and_le_left h.lt, fun b hb2 => ?_⟩⟩
  · have h4 := h.bits (y - 64 * i) (by omega)
    rw [l2 _ (by omega), show 64 * i + (y - 64 * i) = y by omega, decide_eq_true h1, Bool.true_and] at h4
    exact h4.symm
  · rw [drop_low hx, h.bits b hb2]
    by_cases e : b < k
    · have := h.bits b hb2
      rw [l2 b e] at this
      rw [← this, show decide (64 * i + k + 1 ≤ 64 * i + b) = false from decide_eq_false (by omega)]
      simp
    · by_cases e2 : b = k
      · subst e2
        rw [show decide (64 * i + b + 1 ≤ 64 * i + b) = false from decide_eq_false (by omega)]
        simp
      · rw [decide_eq_true (show u ≤ 64 * i + b by omega), decide_eq_true (show 64 * i + k + 1 ≤ 64 * i + b by omega), decide_eq_true e2]
        simp
theorem Fr.over {A : Nat → Nat → Bool} {c : Nat → Option Nat} {x i u : Nat} (h : Fr A c x i u 0) (hu : 64 * i ≤ u) : ∀ y, u ≤ y → y < 64 * i + 64 → new1 A c x y = false := fun y h1 h2 => by
  have h4 := h.bits (y - 64 * i) (by omega)
  rw [Nat.zero_testBit, show 64 * i + (y - 64 * i) = y by omega, decide_eq_true h1, Bool.true_and] at h4
  exact h4.symm
/-- A word that has been looked at, put to what was seen. -/
theorem seen_or {A : Nat → Nat → Bool} {c : Nat → Option Nat} {x i word sw : Nat} (hw : word < 18446744073709551616) (hsw : sw < 18446744073709551616) (hb : ∀ b, b < 64 → word.testBit b = A x (64 * i + b)) (hs : ∀ b, b < 64 → sw.testBit b = (c (64 * i + b)).isSome) :
    sw ||| word < 18446744073709551616 ∧ ∀ b, b < 64 → (sw ||| word).testBit b = (took A c x (64 * i + 64) (64 * i + b)).isSome :=
  ⟨Nat.or_lt_two_pow (n := 64) hsw hw, fun b hb2 => by
    rw [Nat.testBit_or, hb b hb2, hs b hb2, Bool.eq_iff_iff, took_some, Bool.or_eq_true, new1]
    have : 64 * i + b < 64 * i + 64 := by omega
    simp only [this, true_and, Bool.and_eq_true]
    cases c (64 * i + b) <;> simp⟩
end Go.Proofs.YtbhihmkgimdjpaaDoor
