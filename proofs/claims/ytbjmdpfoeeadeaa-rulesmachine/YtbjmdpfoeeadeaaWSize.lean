/- What is proved: Size tells how many bytes a number's form has, and 0 for what has none; no condition. -/
import Derived.Test.YtbjmdpfoeeadeaaWNum
import Derived.Lib.Strings
import Derived.Lib.Slices
import Derived.Lib.Small
import Derived.Lib.Walk
import Derived.Lib.BitFns
import Derived.Lib.ItoaNum
namespace Go.Proofs.Ytbjmdpfoeeadeaa
open Go.RowKit

theorem bits_of (n : Nat) (h : n < 2 ^ 64) : Bits n (Lib.bitLen n) := by
  by_cases h0 : n = 0
  · subst h0
    exact ⟨by decide, fun _ => by decide, fun h => absurd rfl h⟩
  · obtain ⟨b1, b2, b3⟩ := Lib.bitLenAux_bounds 64 n h h0
    exact ⟨b3, fun e => absurd e h0, fun _ => ⟨b1, b2⟩⟩
theorem tab_get (y : Int) (h : y.toNat < Lib.len8tab.size) : ((Lib.len8tab[y.toNat]'h).toNat : Int) = Lib.len8 y := by
  unfold Lib.len8
  rw [getElem?_pos Lib.len8tab y.toNat h]
  rfl
/-- The last step of the search: k bits ahead of the byte y. -/
theorem tab_step (k : Nat) (x y : Int) (h0 : 0 ≤ x) (h1 : x ≤ 18446744073709551615) (hb : y.toNat = x.toNat / 2 ^ k) (h8 : 0 ≤ y ∧ y ≤ 255) (hk : k = 0 ∨ 2 ^ k ≤ x.toNat) (h56 : k ≤ 56) :
    wrap64 ((k : Int) + wrap64 (Lib.len8 y)) = (Lib.bitLen x.toNat : Int) := by
  rw [Lib.len8_of y h8.1 h8.2]
  have hn : x.toNat < 2 ^ 64 := by omega
  have h2 := Lib.bitLen_le8' y h8.1 h8.2
  rw [hb] at h2 ⊢
  have e : Lib.bitLen x.toNat = k + Lib.bitLen (x.toNat / 2 ^ k) := by
    rcases hk with rfl | hk
    · simp
    · exact Lib.bitLen_shift k _ hk hn
  rw [e]
  generalize Lib.bitLen (x.toNat / 2 ^ k) = q at *
  simp only [wrap64, Int.natCast_add]
  omega
theorem tab_step0 (x : Int) (h0 : 0 ≤ x) (h1 : x ≤ 255) : wrap64 (wrap64 (Lib.len8 x)) = (Lib.bitLen x.toNat : Int) := by
  have := tab_step 0 x x h0 (by omega) (by simp) ⟨h0, h1⟩ (.inl rfl) (by decide)
  rw [← this]
  congr 1
  simp
theorem tab_size : (Lib.len8tab.size : Int) = 256 := by rw [Lib.len8tab_size]; rfl

set_option maxHeartbeats 4000000 in
set_option maxRecDepth 1000000 in
theorem len64_any (x : Int) (w : World) (h0 : 0 ≤ x) (h1 : x ≤ 18446744073709551615) :
    Calls Try.prog 81 #[.int .u64 x] w fun e w' => e = .returned (.int .i64 (Lib.bitLen x.toNat)) ∧ w' = w := by
  go_enter Try.func81, Try.ntmps81
  go_wp2
  all_goals first
    | (go_ret; refine ⟨congrArg Ending.returned (congrArg (Value.int IntKind.i64) ?_), rfl⟩)
    | (exfalso; have hs := tab_size; omega)
  all_goals first
    | (rw [tab_get (x / 4294967296 / 65536 / 256)]; exact tab_step 56 x (x / 4294967296 / 65536 / 256) h0 h1 (by omega) (by omega) (by omega) (by decide))
    | (rw [tab_get (x / 4294967296 / 65536)]; exact tab_step 48 x (x / 4294967296 / 65536) h0 h1 (by omega) (by omega) (by omega) (by decide))
    | (rw [tab_get (x / 4294967296 / 256)]; exact tab_step 40 x (x / 4294967296 / 256) h0 h1 (by omega) (by omega) (by omega) (by decide))
    | (rw [tab_get (x / 4294967296)]; exact tab_step 32 x (x / 4294967296) h0 h1 (by omega) (by omega) (by omega) (by decide))
    | (rw [tab_get (x / 65536 / 256)]; exact tab_step 24 x (x / 65536 / 256) h0 h1 (by omega) (by omega) (by omega) (by decide))
    | (rw [tab_get (x / 65536)]; exact tab_step 16 x (x / 65536) h0 h1 (by omega) (by omega) (by omega) (by decide))
    | (rw [tab_get (x / 256)]; exact tab_step 8 x (x / 256) h0 h1 (by omega) (by omega) (by omega) (by decide))
    | (rw [tab_get x]; exact tab_step0 x h0 (by omega))
set_option maxRecDepth 100000 in
theorem len_any (x : Int) (w : World) (h0 : 0 ≤ x) (h1 : x ≤ 18446744073709551615) :
    Calls Try.prog 77 #[.int .u64 x] w fun e w' => e = .returned (.int .i64 (Lib.bitLen x.toNat)) ∧ w' = w := by
  have HL : Hid _ := len64_any x w h0 h1
  go_enter Try.func77, Try.ntmps77
  go_wp2_with fail
  refine Calls.mono HL.out ?_
  rintro e w1 ⟨rfl, rfl⟩
  go_wp2_with fail
  go_ret
  exact ⟨rfl, rfl⟩
set_option maxRecDepth 100000 in
theorem size_any (n : Nat) (w : World) (hn : n ≤ 72057594037927935) :
    Calls Try.prog 67 #[.int .i64 (n : Int)] w fun e w' => e = .returned (.int .i64 (form n).length) ∧ w' = w := by
  have HL : Hid _ := len_any (n : Int) w (by omega) (by omega)
  have hz : Hid _ := size_form (bits_of n (by omega))
  have h64 : Lib.bitLen n ≤ 64 := Lib.bitLen_le n 64 (by decide) (by omega)
  rw [Int.toNat_natCast] at HL
  generalize Lib.bitLen n = L at HL hz h64
  generalize (form n).length = F at hz
  have c1 : decide ((n : Int) < 0) = false := decide_eq_false (by omega)
  have c2 : decide (72057594037927935 < (n : Int)) = false := decide_eq_false (by omega)
  have c3 : ¬ ((n : Int) < 0) := by omega
  have c4 : ¬ (72057594037927935 < (n : Int)) := by omega
  go_enter Try.func67, Try.ntmps67
  go_wp2_with fail
  refine Calls.mono HL.out ?_
  rintro e w1 ⟨rfl, rfl⟩
  go_wp2_with fail
  go_ret
  refine ⟨congrArg Ending.returned (congrArg (Value.int IntKind.i64) ?_), rfl⟩
  have hz := hz.out
  omega
set_option maxRecDepth 100000 in
theorem size_no (n : Int) (w : World) (hn : n < 0 ∨ 72057594037927935 < n) :
    Calls Try.prog 67 #[.int .i64 n] w fun e w' => e = .returned (.int .i64 0) ∧ w' = w := by
  by_cases h : n < 0
  · have c1 : decide (n < 0) = true := decide_eq_true h
    clear hn
    go_enter Try.func67, Try.ntmps67
    go_wp2_with fail
    go_ret
    exact ⟨rfl, rfl⟩
  · have c1 : decide (n < 0) = false := decide_eq_false h
    have h2 : 72057594037927935 < n := by omega
    have c2 : decide (72057594037927935 < n) = true := decide_eq_true h2
    clear hn
    go_enter Try.func67, Try.ntmps67
    go_wp2_with fail
    go_ret
    exact ⟨rfl, rfl⟩
end Go.Proofs.Ytbjmdpfoeeadeaa
