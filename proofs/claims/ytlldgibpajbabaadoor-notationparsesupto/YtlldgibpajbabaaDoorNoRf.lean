/- What is proved: the document's small, Plain, hex, digit, Number; condition: lengths. -/
import Derived.Test.YtlldgibpajbabaaDoorNoWh
namespace Go.Proofs.YtlldgibpajbabaaDoor
open Go.RowKit

theorem small_any (b : UInt8) (w : World) : Calls Tryd.prog 71 #[.int .u8 (b.toNat : Int)] w fun e w' => e = .returned (.bool (sm b)) ∧ w' = w := by
  have E : Hid (sm b = smI (b.toNat : Int)) := rfl
  generalize (b.toNat : Int) = r at *
  by_cases h1 : 97 ≤ r <;> by_cases h2 : r ≤ 122 <;> by_cases h3 : 48 ≤ r <;> by_cases h4 : r ≤ 57 <;>
  · have g1 : (r < 97) = ¬ (97 ≤ r) := by simp
    go_enter Tryd.func71, Tryd.ntmps71
    go_wp2_with fail
    go_ret
    refine ⟨?_, rfl⟩
    rw [E.out]
    simp [smI, h1, h2, h3, h4]
theorem rplain_any (l : List UInt8) (w : World) (hl : l.length ≤ 281474976710656) : Calls Tryd.prog 61 #[tx l] w fun e w' => e = .returned (.bool (pln l)) ∧ w' = w := by
  have HS : Hid (∀ b w, _) := small_any
  go_enter Tryd.func61, Tryd.ntmps61
  go_wp2_with fail
  go_loopw [3] (fun i w' => ∃ k : Nat, i = .int .i64 (k : Int) ∧ k ≤ l.length ∧ w' = w ∧ ∀ i, i < k → ∃ b, l[i]? = some b ∧ sm b = true) (fun i _ => l.length - (intOf i).toNat)
  case atStart => exact ⟨0, rfl, Nat.zero_le _, rfl, fun i hi => absurd hi (by omega)⟩
  case round =>
    obtain ⟨k, rfl, hk, rfl, hal⟩ := hrel
    have HAL : Hid _ := hal
    clear hal
    by_cases hkn : k < l.length
    · have c1 : decide ((k : Int) < (l.length : Int)) = true := decide_eq_true (by omega)
      have hkn2 : (k : Int) < (l.length : Int) := by omega
      obtain ⟨b, hb⟩ : ∃ b, l[k]? = some b := ⟨_, List.getElem?_eq_getElem hkn⟩
      have hix : ∀ w, (Instr.index 9 (tx l) (.int .i64 (k : Int))).run Tryd.prog w = _ := idx_tx hb
      have HB : Hid _ := hb
      clear hb
      go_wp2_with fail
      refine Calls.mono (HS.out _ _) ?_
      rintro e w1 ⟨rfl, e1⟩
      subst e1
      cases hs : sm b
      · go_wp2_with fail
        go_ret
        refine ⟨?_, rfl⟩
        have : l.all sm = false := by
          rw [List.all_eq_false]
          exact ⟨b, List.mem_of_getElem? HB.out, by rw [hs]; simp⟩
        unfold pln
        rw [this]
        rfl
      · go_wp2_with fail
        go_roundw
        case rel =>
          refine ⟨k + 1, by simp, hkn, by trivial, fun i hi => ?_⟩
          by_cases h : i < k
          · exact HAL.out i h
          · obtain rfl : i = k := by omega
            exact ⟨b, HB.out, hs⟩
        case measure => simp only [intOf]; omega
    · have c1 : decide ((k : Int) < (l.length : Int)) = false := decide_eq_false (by omega)
      have hkn2 : ¬ (k : Int) < (l.length : Int) := by omega
      have ha : Hid (l.all sm = true) := all_sm fun i hi => HAL.out i (by omega)
      go_wp2_with fail
      go_ret
      refine ⟨?_, rfl⟩
      unfold pln
      rw [ha.out]
      cases l with
      | nil => rfl
      | cons a r => simp
theorem hex_any {n : Nat} (h : n < 16) (w : World) : Calls Tryd.prog 62 #[.int .i64 (n : Int)] w fun e w' => e = .returned (.int .u8 ((hx n).toNat : Int)) ∧ w' = w := by
  have cases16 : n = 0 ∨ n = 1 ∨ n = 2 ∨ n = 3 ∨ n = 4 ∨ n = 5 ∨ n = 6 ∨ n = 7 ∨ n = 8 ∨ n = 9 ∨ n = 10 ∨ n = 11 ∨ n = 12 ∨ n = 13 ∨ n = 14 ∨ n = 15 := by omega
  clear h
  rcases cases16 with rfl | rfl | rfl | rfl | rfl | rfl | rfl | rfl | rfl | rfl | rfl | rfl | rfl | rfl | rfl | rfl <;>
  · go_enter Tryd.func62, Tryd.ntmps62
    go_wp2_with fail
    go_ret
    exact ⟨rfl, rfl⟩
theorem hv_first : ∀ n : Fin 256, ∀ k : Fin 16, (hx k.val = UInt8.ofNat n.val → (∀ j : Fin 16, j < k → hx j.val ≠ UInt8.ofNat n.val) → hv (UInt8.ofNat n.val) = (k.val : Int)) := by decide +kernel
theorem hv_none : ∀ n : Fin 256, (∀ j : Fin 16, hx j.val ≠ UInt8.ofNat n.val) → hv (UInt8.ofNat n.val) = -1 := by decide +kernel
theorem digit_any (b : UInt8) (w : World) : Calls Tryd.prog 67 #[.int .u8 (b.toNat : Int)] w fun e w' => e = .returned (.int .i64 (hv b)) ∧ w' = w := by
  have HH : Hid (∀ n w, n < 16 → _) := fun n w h => hex_any (n := n) h w
  have H1 : Hid (∀ k, k < 16 → hx k = b → (∀ j, j < k → hx j ≠ b) → hv b = (k : Int)) := fun k hk he hn => by
    have := hv_first ⟨b.toNat, b.toNat_lt⟩ ⟨k, hk⟩
    simp only [UInt8.ofNat_toNat] at this
    exact this he (fun j hj => hn j.val hj)
  have H2 : Hid ((∀ j, j < 16 → hx j ≠ b) → hv b = -1) := fun hn => by
    have := hv_none ⟨b.toNat, b.toNat_lt⟩
    simp only [UInt8.ofNat_toNat] at this
    exact this (fun j => hn j.val j.isLt)
  go_enter Tryd.func67, Tryd.ntmps67
  go_wp2_with fail
  go_loopw [3] (fun i w' => ∃ k : Nat, i = .int .i64 (k : Int) ∧ k ≤ 16 ∧ w' = w ∧ ∀ j, j < k → hx j ≠ b) (fun i _ => 16 - (intOf i).toNat)
  case atStart => exact ⟨0, rfl, Nat.zero_le _, rfl, fun i hi => absurd hi (by omega)⟩
  case round =>
    obtain ⟨k, rfl, hk, rfl, hal⟩ := hrel
    have HAL : Hid _ := hal
    clear hal
    by_cases hkn : k < 16
    · have c1 : decide ((k : Int) < 16) = true := decide_eq_true (by omega)
      have hkn2 : (k : Int) < 16 := by omega
      go_wp2_with fail
      refine Calls.mono (HH.out _ _ hkn) ?_
      rintro e w1 ⟨rfl, e1⟩
      subst e1
      by_cases he : hx k = b
      · have q : (((hx k).toNat : Int) == (b.toNat : Int)) = true := by rw [he]; simp
        have R : Hid _ := H1.out k hkn he HAL.out
        clear he
        go_wp2_with fail
        go_ret
        rw [R.out]
        exact ⟨rfl, rfl⟩
      · have q : (((hx k).toNat : Int) == (b.toNat : Int)) = false := (eq_b _ _).trans (beq_eq_false_iff_ne.2 he)
        have HE : Hid (hx k ≠ b) := he
        clear he
        go_wp2_with fail
        go_roundw
        case rel =>
          refine ⟨k + 1, by simp, hkn, by trivial, fun j hj => ?_⟩
          by_cases h : j < k
          · exact HAL.out j h
          · obtain rfl : j = k := by omega
            exact HE.out
        case measure => simp only [intOf]; omega
    · have c1 : decide ((k : Int) < 16) = false := decide_eq_false (by omega)
      have hkn2 : ¬ (k : Int) < 16 := by omega
      have R : Hid _ := H2.out (fun j hj => HAL.out j (by omega))
      go_wp2_with fail
      go_ret
      rw [R.out]
      exact ⟨rfl, rfl⟩
end Go.Proofs.YtlldgibpajbabaaDoor
