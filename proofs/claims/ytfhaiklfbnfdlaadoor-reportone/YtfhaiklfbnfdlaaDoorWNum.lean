/- What is proved: plain facts on the form of a number: it is read back, cut anywhere it ends too soon, and what is read is its form; how long it is; no condition. -/
import Derived.Test.YtfhaiklfbnfdlaaDoorDBase
namespace Go.Proofs.YtfhaiklfbnfdlaaDoor
open Go.RowKit

/-- The bytes of a number. -/
def form (n : Nat) : List Int := if n < 128 then [(n : Int)] else ((n % 128 + 128 : Nat) : Int) :: form (n / 128)
termination_by n
decreasing_by omega
theorem form_small {n : Nat} (h : n < 128) : form n = [(n : Int)] := by rw [form, if_pos h]
theorem form_big {n : Nat} (h : ¬ n < 128) : form n = ((n % 128 + 128 : Nat) : Int) :: form (n / 128) := by rw [form, if_neg h]
/-- Bytes. -/
def Byts (l : List Int) : Prop := ∀ x ∈ l, 0 ≤ x ∧ x < 256
theorem Byts.nil : Byts [] := fun x h => by simp at h
theorem Byts.cons {x : Int} {l : List Int} (h : 0 ≤ x ∧ x < 256) (hl : Byts l) : Byts (x :: l) := fun y hy => by
  rcases List.mem_cons.1 hy with rfl | hy
  · exact h
  · exact hl y hy
theorem Byts.append {a b : List Int} (h : Byts a) (k : Byts b) : Byts (a ++ b) := fun x hx => by
  rcases List.mem_append.1 hx with hx | hx
  · exact h x hx
  · exact k x hx
theorem Byts.take {l : List Int} (h : Byts l) (n : Nat) : Byts (l.take n) := fun x hx => h x (List.mem_of_mem_take hx)
theorem Byts.drop {l : List Int} (h : Byts l) (n : Nat) : Byts (l.drop n) := fun x hx => h x (List.mem_of_mem_drop hx)
theorem Byts.get {l : List Int} (h : Byts l) {i : Nat} {x : Int} (hx : l[i]? = some x) : 0 ≤ x ∧ x < 256 := h x (List.mem_of_getElem? hx)
theorem byts_form (n : Nat) : Byts (form n) := by
  induction n using Nat.strongRecOn with
  | _ n ih =>
    by_cases h : n < 128
    · rw [form_small h]
      exact Byts.cons (by omega) Byts.nil
    · rw [form_big h]
      exact Byts.cons (by omega) (ih _ (by omega))
theorem form_pos (n : Nat) : 0 < (form n).length := by
  by_cases h : n < 128
  · rw [form_small h]; simp
  · rw [form_big h]; simp
theorem form_le {k n : Nat} (h0 : 0 < k) (h : n < 128 ^ k) : (form n).length ≤ k := by
  induction k generalizing n with
  | zero => omega
  | succ k ih =>
    by_cases hn : n < 128
    · rw [form_small hn]; simp
    · rw [form_big hn, List.length_cons]
      rw [Nat.pow_succ] at h
      have hk : 0 < k := by
        rcases Nat.eq_zero_or_pos k with rfl | q
        · simp at h; omega
        · exact q
      have := ih hk (show n / 128 < 128 ^ k by omega)
      omega
theorem form_bounds {n : Nat} (h : n ≠ 0) : 128 ^ ((form n).length - 1) ≤ n ∧ n < 128 ^ (form n).length := by
  induction n using Nat.strongRecOn with
  | _ n ih =>
    by_cases hn : n < 128
    · rw [form_small hn]
      simp; omega
    · rw [form_big hn, List.length_cons]
      obtain ⟨h1, h2⟩ := ih (n / 128) (by omega) (by omega)
      have hp := form_pos (n / 128)
      obtain ⟨c, hc⟩ : ∃ c, (form (n / 128)).length = c + 1 := ⟨_, (Nat.succ_pred_eq_of_pos hp).symm⟩
      rw [hc] at h1 h2 ⊢
      simp only [Nat.add_sub_cancel] at h1 ⊢
      rw [Nat.pow_succ (n := 128) (m := c + 1), Nat.pow_succ (n := 128) (m := c)] at *
      omega
/-- The least number of bits. -/
def Bits (n L : Nat) : Prop := n < 2 ^ L ∧ (n = 0 → L = 0) ∧ (n ≠ 0 → 0 < L ∧ 2 ^ (L - 1) ≤ n)
theorem size_form {n L : Nat} (h : Bits n L) : max 1 ((L + 6) / 7) = (form n).length := by
  obtain ⟨h1, h2, h3⟩ := h
  by_cases h0 : n = 0
  · rw [h2 h0, h0, form_small (by decide)]
    decide
  · obtain ⟨b1, b2⟩ := form_bounds h0
    obtain ⟨g1, g2⟩ := h3 h0
    have hp := form_pos n
    generalize (form n).length = s at b1 b2 hp ⊢
    have e : ∀ k, 128 ^ k = 2 ^ (7 * k) := fun k => by rw [Nat.pow_mul]
    rw [e] at b1 b2
    have c1 : L - 1 < 7 * s := (Nat.pow_lt_pow_iff_right (by decide)).1 (Nat.lt_of_le_of_lt g2 b2)
    have c2 : 7 * (s - 1) < L := (Nat.pow_lt_pow_iff_right (by decide)).1 (Nat.lt_of_le_of_lt b1 h1)
    omega

/-- The number that a list begins with, of at most k bytes: its value, its bytes, the error. -/
def num : Nat → List Int → Nat × Nat × Int
  | 0, _ => (0, 0, 52)
  | _ + 1, [] => (0, 0, 51)
  | k + 1, x :: r => if 128 ≤ x then (if (num k r).2.2 = 0 then (x.toNat % 128 + 128 * (num k r).1, (num k r).2.1 + 1, 0) else (0, 0, (num k r).2.2)) else if x = 0 ∧ k ≠ 7 then (0, 0, 52) else (x.toNat, 1, 0)
theorem num_form {k n : Nat} (r : List Int) (h0 : 0 < k) (h : n < 128 ^ k) (hz : k = 8 ∨ n ≠ 0) : num k (form n ++ r) = (n, (form n).length, 0) := by
  induction k generalizing n with
  | zero => omega
  | succ k ih =>
    by_cases hn : n < 128
    · rw [form_small hn]
      simp only [List.cons_append, List.nil_append, num]
      rw [if_neg (by omega), if_neg (by omega)]
      simp
    · rw [form_big hn]
      simp only [List.cons_append, num]
      rw [Nat.pow_succ] at h
      have hk : 0 < k := by
        rcases Nat.eq_zero_or_pos k with rfl | q
        · simp at h; omega
        · exact q
      rw [ih hk (show n / 128 < 128 ^ k by omega) (.inr (by omega)), if_pos (by omega), if_pos rfl]
      simp only [Prod.mk.injEq, List.length_cons, and_true]
      omega
theorem num_cut {k n c : Nat} (h0 : 0 < k) (h : n < 128 ^ k) (hc : c < (form n).length) : num k ((form n).take c) = (0, 0, 51) := by
  induction k generalizing n c with
  | zero => omega
  | succ k ih =>
    by_cases hn : n < 128
    · rw [form_small hn] at hc ⊢
      obtain rfl : c = 0 := by simpa using hc
      rfl
    · rw [form_big hn] at hc ⊢
      cases c with
      | zero => rfl
      | succ c =>
        simp only [List.take_succ_cons, num]
        rw [Nat.pow_succ] at h
        have hk : 0 < k := by
          rcases Nat.eq_zero_or_pos k with rfl | q
          · simp at h; omega
          · exact q
        rw [ih hk (show n / 128 < 128 ^ k by omega) (by simpa using hc), if_pos (by omega)]
        rfl
theorem num_one {k : Nat} {l : List Int} (hk : k ≤ 8) (hl : Byts l) (h : (num k l).2.2 = 0) : form (num k l).1 = l.take (num k l).2.1 ∧ (num k l).2.1 ≤ l.length ∧ 1 ≤ (num k l).2.1 ∧ (num k l).2.1 ≤ k ∧ (num k l).1 < 128 ^ k ∧ (k < 8 → (num k l).1 ≠ 0) := by
  induction k generalizing l with
  | zero => simp [num] at h
  | succ k ih =>
    cases l with
    | nil => simp [num] at h
    | cons x r =>
      have hx := hl x (by simp)
      have hr : Byts r := fun y hy => hl y (by simp [hy])
      simp only [num] at h ⊢
      by_cases h1 : 128 ≤ x
      · rw [if_pos h1] at h ⊢
        by_cases h2 : (num k r).2.2 = 0
        · rw [if_pos h2] at h ⊢
          obtain ⟨i1, i2, i3, i4, i5, i6⟩ := ih (by omega) hr h2
          have i6 := i6 (by omega)
          generalize num k r = q at *
          obtain ⟨m, s, e⟩ := q
          simp only at *
          refine ⟨?_, by simp; omega, by omega, by omega, ?_, fun _ => by omega⟩
          · rw [form_big (by omega), show (x.toNat % 128 + 128 * m) / 128 = m by omega, i1, List.take_succ_cons]
            congr 1
            omega
          · rw [Nat.pow_succ]; omega
        · rw [if_neg h2] at h
          exact absurd h h2
      · rw [if_neg h1] at h ⊢
        by_cases h2 : x = 0 ∧ k ≠ 7
        · rw [if_pos h2] at h
          simp at h
        · rw [if_neg h2]
          have hpw : 128 ≤ 128 ^ (k + 1) := by
            rw [Nat.pow_succ]
            have : 0 < 128 ^ k := Nat.pow_pos (by decide)
            omega
          refine ⟨?_, by simp, Nat.le_refl _, by show 1 ≤ k + 1; omega, by show x.toNat < _; omega, fun _ => by show x.toNat ≠ 0; omega⟩
          show form x.toNat = (x :: r).take 1
          rw [form_small (by omega)]
          simp; omega
/-- What is read behind i bytes that are worth a. -/
def more (i a : Nat) (q : Nat × Nat × Int) : Nat × Nat × Int := if q.2.2 = 0 then (a + 128 ^ i * q.1, i + q.2.1, 0) else (0, 0, q.2.2)
theorem num_err {k : Nat} {l : List Int} (h : (num k l).2.2 ≠ 0) : num k l = (0, 0, (num k l).2.2) := by
  cases k with
  | zero => rfl
  | succ k =>
    cases l with
    | nil => rfl
    | cons x r =>
      simp only [num] at h ⊢
      by_cases h1 : 128 ≤ x
      · rw [if_pos h1] at h ⊢
        by_cases h2 : (num k r).2.2 = 0
        · rw [if_pos h2] at h; exact absurd rfl h
        · rw [if_neg h2]
      · rw [if_neg h1] at h ⊢
        by_cases h2 : x = 0 ∧ k ≠ 7
        · rw [if_pos h2]
        · rw [if_neg h2] at h; exact absurd rfl h
theorem more_zero (q : Nat × Nat × Int) (h : q.2.2 ≠ 0 → q = (0, 0, q.2.2)) : more 0 0 q = q := by
  unfold more
  by_cases e : q.2.2 = 0
  · rw [if_pos e]
    obtain ⟨a, b, c⟩ := q
    simp only at e
    subst e
    simp
  · rw [if_neg e]; exact (h e).symm
/-- One byte more. -/
theorem more_step {i a k : Nat} {x : Int} {r : List Int} (h : 128 ≤ x) : more i a (num (k + 1) (x :: r)) = more (i + 1) (a + x.toNat % 128 * 128 ^ i) (num k r) := by
  have e : num (k + 1) (x :: r) = if (num k r).2.2 = 0 then (x.toNat % 128 + 128 * (num k r).1, (num k r).2.1 + 1, 0) else (0, 0, (num k r).2.2) := if_pos h
  by_cases h2 : (num k r).2.2 = 0
  · rw [if_pos h2] at e
    rw [e]
    unfold more
    rw [if_pos rfl, if_pos h2]
    simp only [Prod.mk.injEq, and_true]
    refine ⟨?_, by omega⟩
    rw [Nat.pow_succ, Nat.mul_add, Nat.mul_comm (128 ^ i) (x.toNat % 128), ← Nat.mul_assoc, Nat.add_assoc]
  · rw [if_neg h2] at e
    rw [e]
    unfold more
    rw [if_neg h2, if_neg h2]
end Go.Proofs.YtfhaiklfbnfdlaaDoor
