/- What is proved: how often a number of runs must be divided by the fan, rounded up, until one is left: the least power of the fan that is not below it; plain arithmetic. -/
import Derived.Test.YtaidooekdldidaaRows
namespace Go.Proofs.Ytaidooekdldidaa

/-- p is the least number for which f to the power p is at least r. -/
def lst (f r p : Nat) : Prop := r ≤ f ^ p ∧ ∀ q, q < p → f ^ q < r
theorem lst_det {f r p q : Nat} (h1 : lst f r p) (h2 : lst f r q) : p = q := by
  rcases Nat.lt_trichotomy p q with h | h | h
  · have := h2.2 p h
    have := h1.1
    omega
  · exact h
  · have := h1.2 q h
    have := h2.1
    omega
/-- One pass: a fan-th of the runs, rounded up. -/
def up (f r : Nat) : Nat := (r - 1) / f + 1
theorem up_le {f r p : Nat} (hf : 0 < f) (hr : 1 ≤ r) : up f r ≤ f ^ p ↔ r ≤ f ^ (p + 1) := by
  unfold up
  have h := Nat.div_lt_iff_lt_mul hf (x := r - 1) (y := f ^ p)
  rw [Nat.pow_succ]
  omega
theorem up_lt {f r : Nat} (hf : 2 ≤ f) (hr : 2 ≤ r) : up f r < r := by
  unfold up
  have h := (Nat.div_lt_iff_lt_mul (by omega : 0 < f) (x := r - 1) (y := r - 1)).2 (by
    have : (r - 1) * 2 ≤ (r - 1) * f := Nat.mul_le_mul_left _ hf
    omega)
  omega
/-- Several passes. -/
def ups (f r : Nat) : Nat → Nat
  | 0 => r
  | i + 1 => up f (ups f r i)
theorem ups_pos {f r : Nat} (hr : 1 ≤ r) : ∀ i, 1 ≤ ups f r i
  | 0 => hr
  | _ + 1 => Nat.le_add_left _ _
theorem ups_le {f r : Nat} (hf : 0 < f) (hr : 1 ≤ r) : ∀ i p, (ups f r i ≤ f ^ p ↔ r ≤ f ^ (p + i))
  | 0, _ => Iff.rfl
  | i + 1, p => by
    rw [ups, up_le hf (ups_pos hr i), ups_le hf hr i (p + 1), show p + 1 + i = p + (i + 1) by omega]
theorem ups_lst {f r : Nat} (hf : 0 < f) (hr : 1 ≤ r) {n : Nat} (h1 : ups f r n ≤ 1) (h2 : ∀ j, j < n → 2 ≤ ups f r j) : lst f r n := by
  refine ⟨?_, fun q hq => ?_⟩
  · have := (ups_le hf hr n 0).1 (by simpa using h1)
    simpa using this
  · have h3 := h2 q hq
    refine Nat.lt_of_not_le fun h4 => ?_
    have := (ups_le hf hr q 0).2 (by simpa using h4)
    simp only [Nat.pow_zero] at this
    omega
theorem lst_ups {f r n : Nat} (hf : 0 < f) (hr : 1 ≤ r) (h : lst f r n) : ups f r n = 1 ∧ ∀ j, j < n → 2 ≤ ups f r j := by
  constructor
  · have h1 := (ups_le hf hr n 0).2 (by simpa using h.1)
    have h2 := ups_pos (f := f) hr n
    simp only [Nat.pow_zero] at h1
    omega
  · intro j hj
    have h1 := h.2 j hj
    refine Nat.lt_of_not_le fun h4 => ?_
    have := (ups_le hf hr j 0).1 (by simpa using h4)
    simp only [Nat.zero_add] at this
    omega
theorem lst_up {f r n : Nat} (hf : 0 < f) (hr : 1 ≤ r) (h : lst f r (n + 1)) : lst f (up f r) n := by
  refine ⟨(up_le hf hr).2 h.1, fun q hq => ?_⟩
  refine Nat.lt_of_not_le fun h4 => ?_
  have := (up_le hf hr).1 h4
  have := h.2 (q + 1) (by omega)
  omega
theorem lst_small {f r : Nat} (h : r ≤ 1) : lst f r 0 := ⟨by simpa using h, fun q hq => absurd hq (Nat.not_lt_zero q)⟩
theorem lst_pos {f r n : Nat} (hr : 2 ≤ r) (h : lst f r n) : 1 ≤ n := by
  rcases n with _ | n
  · have := h.1
    simp only [Nat.pow_zero] at this
    omega
  · omega
theorem lst_most {f r n : Nat} (hf : 2 ≤ f) (hr : r < 9223372036854775808) (h : lst f r n) : n ≤ 63 := by
  refine Nat.le_of_not_lt fun h1 => ?_
  have h2 := h.2 63 h1
  have h3 : 2 ^ 63 ≤ f ^ 63 := Nat.pow_le_pow_left hf 63
  have h4 : (2 : Nat) ^ 63 = 9223372036854775808 := by decide
  omega
theorem up_of {f r : Nat} (hr : 1 ≤ r) : (up f r : Int) = Int.tdiv ((r : Int) - 1) (f : Int) + 1 := by
  unfold up
  obtain ⟨k, rfl⟩ : ∃ k, r = k + 1 := ⟨r - 1, by omega⟩
  rw [Nat.add_sub_cancel, Int.natCast_add, Int.natCast_add]
  have h : ((k : Int) + (1 : Nat)) - 1 = (k : Int) := by omega
  rw [h, Int.ofNat_tdiv]
  rfl
end Go.Proofs.Ytaidooekdldidaa
