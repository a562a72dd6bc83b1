/- What is proved: 'first' reads the number that a list of bytes begins with; the list lies in memory. -/
import Derived.Test.YtflemfohnpjeaaaWApp
namespace Go.Proofs.Ytflemfohnpjeaaa
open Go.RowKit

theorem or_add {j a y : Nat} (ha : a < 2 ^ (7 * j)) : a ||| y * 2 ^ (7 * j) = a + y * 2 ^ (7 * j) := by
  rw [Nat.or_comm, ← Nat.shiftLeft_eq, ← Nat.shiftLeft_add_eq_or_of_lt ha y, Nat.add_comm]
theorem bits_nat (a Y : Nat) (ha : a < 144115188075855872) (hY : Y < 144115188075855872) (h : a ||| Y = a + Y) : bits BinOp.or IntKind.i64 (a : Int) (Y : Int) = ((a + Y : Nat) : Int) := by
  have t : (BitVec.ofInt 64 (a : Int) ||| BitVec.ofInt 64 (Y : Int)).toNat = a + Y := by
    rw [BitVec.toNat_or, BitVec.ofInt_natCast, BitVec.ofInt_natCast, BitVec.toNat_ofNat, BitVec.toNat_ofNat, Nat.mod_eq_of_lt (Nat.lt_trans ha (by decide)), Nat.mod_eq_of_lt (Nat.lt_trans hY (by decide))]
    exact h
  have e : bits BinOp.or IntKind.i64 (a : Int) (Y : Int) = IntKind.i64.wrap ((BitVec.ofInt 64 (a : Int) ||| BitVec.ofInt 64 (Y : Int)).toNat : Int) := rfl
  rw [e, t, IntKind.wrap_i64]
  omega
theorem wrap_small (Y : Nat) (hY : Y < 144115188075855872) : wrap64 (Y : Int) = (Y : Int) := by
  simp only [wrap64]
  omega
theorem or_bits {j a : Nat} {x : Int} (hj : j ≤ 7) (ha : a < 128 ^ j) (h0 : 0 ≤ x) (h1 : x < 256) : bits BinOp.or IntKind.i64 (a : Int) (wrap64 (x % 128 * 2 ^ (7 * j))) = ((a + x.toNat % 128 * 128 ^ j : Nat) : Int) := by
  have e128 : 128 ^ j = 2 ^ (7 * j) := by rw [Nat.pow_mul]
  rw [e128] at ha ⊢
  obtain ⟨y, hy⟩ : ∃ y, y = x.toNat % 128 := ⟨_, rfl⟩
  have ex : x % 128 = (y : Int) := by clear ha e128; omega
  have hy8 : y ≤ 127 := by clear ha e128; omega
  have hp : 2 ^ (7 * j) ≤ 562949953421312 := Nat.le_trans (Nat.pow_le_pow_right (by decide) (show 7 * j ≤ 49 by clear ha e128; omega)) (by decide)
  rw [ex, ← hy]
  have hc : (y : Int) * 2 ^ (7 * j) = ((y * 2 ^ (7 * j) : Nat) : Int) := by rw [Int.natCast_mul, Int.natCast_pow]; rfl
  rw [hc]
  have hor := or_add (y := y) ha
  have hY : y * 2 ^ (7 * j) ≤ 127 * 562949953421312 := Nat.mul_le_mul hy8 hp
  have ha2 := Nat.lt_of_lt_of_le ha hp
  clear ha hp hc e128
  generalize y * 2 ^ (7 * j) = Y at *
  rw [wrap_small Y (Nat.lt_of_le_of_lt hY (by decide))]
  exact bits_nat a Y (Nat.lt_trans ha2 (by decide)) (Nat.lt_of_le_of_lt hY (by decide)) hor

set_option maxRecDepth 100000 in
set_option maxHeartbeats 1600000 in
theorem first_any (w : World) (oa : Option Addr) (c : Nat) (l : List Int) (hl : BytesAt w oa l) (hby : Byts l) (_ : l.length ≤ 9223372036854775807) :
    Calls Try.prog 54 #[.slice oa l.length c] w fun e w' => e = .returned (.tuple #[.int .i64 (num 8 l).1, .int .i64 (num 8 l).2.1, .int .i64 (num 8 l).2.2]) ∧ w' = w := by
  obtain ⟨n, en⟩ : ∃ n, n = l.length := ⟨_, rfl⟩
  rw [← en]
  have EN : Hid _ := en
  have HL : Hid _ := hl
  have HBY : Hid _ := hby
  clear en hl hby
  go_enter Try.func54, Try.ntmps54
  go_wp2_with fail
  go_loop [2, 5, 6] (fun s _ i => ∃ j a : Nat, j ≤ 8 ∧ i = .int .i64 j ∧ s = .int .i64 a ∧ a < 128 ^ j ∧ j ≤ n ∧ num 8 l = more j a (num (8 - j) (l.drop j))) (fun _ _ i => 8 - (intOf i).toNat)
  case atStart => exact ⟨0, 0, by decide, rfl, rfl, by decide, Nat.zero_le _, (more_zero _ num_err).symm⟩
  case round =>
    obtain ⟨j, a, hj, rfl, rfl, ha, hjn, he⟩ := hrel
    have HE : Hid _ := he
    have HA : Hid _ := ha
    clear he ha
    by_cases h8 : j < 8
    · have c1 : decide ((j : Int) < 8) = true := decide_eq_true (by omega)
      have c1' : (j : Int) < 8 := by omega
      by_cases hn : j = n
      · have c2 : ((j : Int) == (n : Int)) = true := by simp; omega
        have c2' : (j : Int) = (n : Int) := by omega
        have e : num 8 l = (0, 0, 51) := by
          rw [HE.out, List.drop_eq_nil_of_le (by rw [← EN.out]; omega)]
          obtain ⟨q, eq⟩ : ∃ q, 8 - j = q + 1 := ⟨7 - j, by omega⟩
          rw [eq]
          rfl
        have E : Hid _ := e
        clear e
        go_wp2_with fail
        go_ret3
        exact ⟨by rw [E.out]; rfl, rfl⟩
      · have c2 : ((j : Int) == (n : Int)) = false := by simp; omega
        have c2' : ¬ (j : Int) = (n : Int) := by omega
        have c3 : (j : Int) < (n : Int) := by omega
        obtain ⟨x, hx⟩ : ∃ x, l[j]? = some x := ⟨_, List.getElem?_eq_getElem (by rw [← EN.out]; omega)⟩
        obtain ⟨b1, o1, rfl, -, q1⟩ := HL.out j x hx
        obtain ⟨x0, x1⟩ := Byts.get HBY.out hx
        have hor := or_bits (show j ≤ 7 by omega) HA.out x0 x1
        have hd : l.drop j = x :: l.drop (j + 1) := by
          obtain ⟨hj', rfl⟩ := List.getElem?_eq_some_iff.1 hx
          exact List.drop_eq_getElem_cons hj'
        obtain ⟨q, eq⟩ : ∃ q, q = 7 - j := ⟨_, rfl⟩
        have he := HE.out
        rw [hd, show 8 - j = q + 1 by omega] at he
        obtain ⟨A, eA⟩ : ∃ A, A = a + x.toNat % 128 * 128 ^ j := ⟨_, rfl⟩
        rw [← eA] at hor
        have HOR : Hid _ := hor
        by_cases hx8 : 128 ≤ x
        · have c4 : decide (128 ≤ x) = true := decide_eq_true hx8
          have HN : Hid (num 8 l = more (j + 1) A (num q (l.drop (j + 1)))) := by rw [eA, ← more_step hx8]; exact he
          have HA2 : Hid (A < 128 ^ (j + 1)) := by
            have h1 : x.toNat % 128 < 128 := by omega
            have h2 := HA.out
            rw [eA, Nat.pow_succ]
            have : x.toNat % 128 * 128 ^ j ≤ 127 * 128 ^ j := Nat.mul_le_mul_right _ (by omega)
            show a + x.toNat % 128 * 128 ^ j < 128 ^ j * 128
            omega
          clear hor he hd hx eA
          go_wp2_with fail
          go_round
          case rel => exact ⟨j + 1, A, by omega, by simp, by rw [HOR.out], HA2.out, by omega, by rw [HN.out, eq, show 8 - (j + 1) = 7 - j by omega]⟩
          case measure => simp only [intOf]; omega
        · have c4 : decide (128 ≤ x) = false := decide_eq_false hx8
          have c4' : x < 128 := by omega
          by_cases hz : x = 0 ∧ 0 < j
          · have e : num 8 l = (0, 0, 52) := by
              rw [he]
              have : num (q + 1) (x :: l.drop (j + 1)) = (0, 0, 52) := by
                simp only [num]
                rw [if_neg hx8, if_pos ⟨hz.1, by omega⟩]
              rw [this]
              rfl
            obtain ⟨rfl, hj0⟩ := hz
            have c5 : decide (0 < (j : Int)) = true := decide_eq_true (by omega)
            have c5' : 0 < (j : Int) := by omega
            have E : Hid _ := e
            clear hor he hd hx eA e HOR
            go_wp2_with fail
            go_ret3
            exact ⟨by rw [E.out]; rfl, rfl⟩
          · have e : num 8 l = (A, j + 1, 0) := by
              rw [he]
              have : num (q + 1) (x :: l.drop (j + 1)) = (x.toNat, 1, 0) := by
                simp only [num]
                rw [if_neg hx8, if_neg (by omega)]
              rw [this, eA, show x.toNat % 128 = x.toNat by omega]
              simp [more, Nat.mul_comm]
            have E : Hid _ := e
            clear e
            by_cases hx0 : x = 0
            · have hj0 : j = 0 := by omega
              have c5 : decide (0 < (j : Int)) = false := decide_eq_false (by omega)
              have c5' : ¬ 0 < (j : Int) := by omega
              subst hx0
              have hw : wrap64 ((0 : Int) % 128 * 2 ^ (7 * j)) = 0 := by simp [wrap64]
              rw [hw] at HOR
              clear hor he hd hx eA hw hj0 hz
              go_wp2_with fail
              go_ret3
              refine ⟨?_, rfl⟩
              rw [E.out]
              have := HOR.out
              simp at this ⊢
              exact this
            · have c6 : (x == 0) = false := by simpa using hx0
              clear hor he hd hx eA
              go_wp2_with fail
              go_ret3
              refine ⟨?_, rfl⟩
              rw [E.out]
              have := HOR.out
              simp at this ⊢
              exact this
    · obtain rfl : j = 8 := by omega
      have E : Hid (num 8 l = (0, 0, 52)) := HE.out
      go_wp2_with fail
      go_ret3
      exact ⟨by rw [E.out]; rfl, rfl⟩
end Go.Proofs.Ytflemfohnpjeaaa
