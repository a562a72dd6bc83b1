/- What is proved: 'first' reads the number that a list of bytes begins with; the list lies in memory. -/
import Derived.Test.YtfhaiklfbnfdlaaDoorWApp
namespace Go.Proofs.YtfhaiklfbnfdlaaDoor
open Go.RowKit

theorem or_add {j a y : Nat} (ha : a < 2 ^ (7 * j)) : a ||| y * 2 ^ (7 * j) = a + y * 2 ^ (7 * j) := by
  rw [Nat.or_comm, ← Nat.shiftLeft_eq, ← Nat.shiftLeft_add_eq_or_of_lt ha y, Nat.add_comm]
theorem bits_nat (a Y : Nat) (ha : a < 144115188075855872) (hY : Y < 144115188075855872) (h : a ||| Y = a + Y) : bits BinOp.or IntKind.i64 (a : Int) (Y : Int) = ((a + Y : Nat) : Int) := by
  have t : (BitVec.ofInt 64 (a : Int) ||| BitVec.ofInt 64 (Y : Int)).toNat = a + Y := by
    rw [BitVec.toNat_or, BitVec.ofInt_natCast, BitVec.ofInt_natCast, BitVec.toNat_ofNat, BitVec.toNat_ofNat, Nat.mod_eq_of_lt (Nat.lt_trans ha (by decide)), Nat.mod_eq_of_lt (Nat.lt_trans hY (by decide))]
    exact h
  have e : bits BinOp.or IntKind.i64 (a : Int) (Y : Int) = IntKind.i64.wrap ((BitVec.ofInt 64 (a : Int) ||| BitVec.ofInt 64 (Y : Int)).toNat : Int) := rfl
  rw [e, t, IntKind.wrap_i64]
  omega
theorem wrap_small (Y : Nat) (hY : Y < 144115188075855872) : wrap64 (Y : Int) = (Y : Int) := by
  simp only [wrap64]
  omega
theorem or_bits {j a : Nat} {x : Int} (hj : j ≤ 7) (ha : a < 128 ^ j) (h0 : 0 ≤ x) (h1 : x < 256) : bits BinOp.or IntKind.i64 (a : Int) (wrap64 (x % 128 * 2 ^ (7 * j))) = ((a + x.toNat % 128 * 128 ^ j : Nat) : Int) := by
  have e128 : 128 ^ j = 2 ^ (7 * j) := by rw [Nat.pow_mul]
  rw [e128] at ha ⊢
  obtain ⟨y, hy⟩ : ∃ y, y = x.toNat % 128 := ⟨_, rfl⟩
  have ex : x % 128 = (y : Int) := by clear ha e128; omega
  have hy8 : y ≤ 127 := by clear ha e128; omega
  have hp : 2 ^ (7 * j) ≤ 562949953421312 := Nat.le_trans (Nat.pow_le_pow_right (by decide) (show 7 * j ≤ 49 by clear ha e128; omega)) (by decide)
  rw [ex, ← hy]
  have hc : (y : Int) * 2 ^ (7 * j) = ((y * 2 ^ (7 * j) : Nat) : Int) := by rw [Int.natCast_mul, Int.natCast_pow]; rfl
  rw [hc]
  have hor := or_add (y := y) ha
  have hY : y * 2 ^ (7 * j) ≤ 127 * 562949953421312 := Nat.mul_le_mul hy8 hp
  have ha2 := Nat.lt_of_lt_of_le ha hp
  clear ha hp hc e128
  generalize y * 2 ^ (7 * j) = Y at *
  rw [wrap_small Y (Nat.lt_of_le_of_lt hY (by decide))]
  exact bits_nat a Y (Nat.lt_trans ha2 (by decide)) (Nat.lt_of_le_of_lt hY (by decide)) hor

end Go.Proofs.YtfhaiklfbnfdlaaDoor
