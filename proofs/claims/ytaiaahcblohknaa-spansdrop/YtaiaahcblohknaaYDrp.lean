/- What is proved: what Drop's rounds leave, as plain facts: the spans of the keys met that end at the floor or earlier are out. -/
import Derived.Test.YtaiaahcblohknaaYDrk
namespace Go.Proofs.Ytaiaahcblohknaa
open Go.RowKit

/-- What is left when the range has still to meet the keys of left. -/
def dr (A : List Ks) (left : Lit → Bool) (fl : Int) : List Ks := A.filter fun y => left (kl y.key) || decide (fl < y.s.t)
theorem dr_step (A : List Ks) (left : Lit → Bool) (fl : Int) (k : ByteArray) : dr A (fun z => left z && !z.sameKey (kl k)) fl = (dr A left fl).filter (late k fl) := by
  unfold dr
  rw [List.filter_filter]
  refine List.filter_congr fun y _ => ?_
  by_cases h : y.key.toList = k.toList
  · have h1 : (kl y.key).sameKey (kl k) = true := by rw [kl_eq h]; exact WideAt.sameKey_self (kl_key k)
    by_cases h2 : fl < y.s.t
    · have h3 : ¬ (y.s.t ≤ fl) := by omega
      simp [late, h, h1, h2, h3]
    · have h3 : y.s.t ≤ fl := by omega
      simp [late, h, h1, h2, h3]
  · have h1 : (kl y.key).sameKey (kl k) = false := Maps.sameKey_ne (kl_ne h)
    simp [late, h, h1]
theorem dr_all {A : List Ks} {left : Lit → Bool} (h : ∀ y ∈ A, left (kl y.key) = true) (fl : Int) : dr A left fl = A := by
  unfold dr
  exact List.filter_eq_self.2 fun y hy => by simp [h y hy]
theorem dr_end {A : List Ks} {left : Lit → Bool} (h : ∀ z, left z = false) (fl : Int) : dr A left fl = A.filter fun y => decide (fl < y.s.t) := by
  unfold dr
  exact List.filter_congr fun y _ => by simp [h]
theorem dr_none {A : List Ks} {fl e : Int} (h : ∀ y ∈ A, e ≤ y.s.t) (he : fl < e) : (A.filter fun y => decide (fl < y.s.t)) = A :=
  List.filter_eq_self.2 fun y hy => by have := h y hy; simp only [decide_eq_true_eq]; omega
end Go.Proofs.Ytaiaahcblohknaa
