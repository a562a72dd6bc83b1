/- What is proved: config's Usual and Check; no condition. -/
import Derived.Test.YtolooejcgdknnaaDoorCfN
import Derived.BigQuiet
import Derived.Deep.QuietTactic
namespace Go.Proofs.YtolooejcgdknnaaDoor
open Go.RowKit

/-- A config. -/
structure Cg where
  a : Int
  b : Int
  c : Int
  d : Int
  e : Int
/-- Its first error, or 0. -/
def chk (x : Cg) : Int := if x.a < 1200 ∨ 16777216 < x.a then 100 else if x.b < 2 ∨ 64 < x.b then 110 else if x.c < 0 ∨ 1048576 < x.c then 160 else if x.d < 0 ∨ 1099511627776 < x.d then 171 else if x.e < 0 ∨ 10000 < x.e then 180 else 0
theorem cusual_any (w : World) : Calls Tryd.prog 16 #[] w fun r w' => r = .returned (.agg #[.int .i64 4096, .int .i64 8, .int .i64 1048576, .int .i64 0, .int .i64 100]) ∧ Kept w w' := by
  have HS : Hid (∀ w, _) := usualNumbers_any
  have HC : Hid (∀ a b c d e w, _) := configOf_any
  go_enter Tryd.func16, Tryd.ntmps16
  go_wp2_with fail
  refine Calls.mono (HS.out _) ?_
  rintro r w1 ⟨rfl, k1⟩
  have z1 := k1.size
  have hc : w1.heap[w.heap.size]? = some (.cells #[.int .i64 0, .int .i64 0, .int .i64 0, .int .i64 0, .int .i64 0] 23 (0, 0)) := (k1.block _ (by simp) (fun e => e)).trans (heap_new _ _)
  have K1 : Hid (Kept w w1) := ((Same.refl _ w).alloc _).trans' k1
  clear k1 z1
  go_wp2_with fail
  refine Calls.mono (HC.out _ _ _ _ _ _) ?_
  rintro r w2 ⟨rfl, k2⟩
  replace hc := (k2.block _ (lt_of_heap hc) (fun e => e)).trans hc
  have K2 : Hid (Kept w w2) := K1.out.trans' k2
  have d0 : w2.cell? ⟨w.heap.size, 0, none⟩ = some (.int .i64 0) := cell_of hc 0
  have d1 : w2.cell? ⟨w.heap.size, 1, none⟩ = some (.int .i64 0) := cell_of hc 1
  have d2 : w2.cell? ⟨w.heap.size, 2, none⟩ = some (.int .i64 0) := cell_of hc 2
  have d3 : w2.cell? ⟨w.heap.size, 3, none⟩ = some (.int .i64 0) := cell_of hc 3
  have d4 : w2.cell? ⟨w.heap.size, 4, none⟩ = some (.int .i64 0) := cell_of hc 4
  have f0 := frozen_of hc 0
  have f1 := frozen_of hc 1
  have f2 := frozen_of hc 2
  have f3 := frozen_of hc 3
  have f4 := frozen_of hc 4
  have hz := lt_of_heap hc
  clear k2 hc
  go_wp2_with fail
  refine bodyPost_ret (v := .agg #[.int .i64 4096, .int .i64 8, .int .i64 1048576, .int .i64 0, .int .i64 100]) (results_cN rfl rfl ?_) rfl ⟨rfl, ?_⟩
  · go_simp
  · exact ((((K2.out.setCell _ (.inl (Nat.le_refl _)) _).setCell _ (.inl (Nat.le_refl _)) _).setCell _ (.inl (Nat.le_refl _)) _).setCell _ (.inl (Nat.le_refl _)) _).setCell _ (.inl (Nat.le_refl _)) _

set_option maxRecDepth 100000 in
set_option maxHeartbeats 3200000 in
theorem check_cf (x : Cg) (w : World) : Calls Tryd.prog 11 #[.agg #[.int .i64 x.a, .int .i64 x.b, .int .i64 x.c, .int .i64 x.d, .int .i64 x.e]] w fun r w' => r = .returned (.int .i64 (chk x)) ∧ Kept w w' := by
  have HS : Hid (∀ w, _) := settings_o
  have HN : Hid (∀ a b c d e w, _) := numbersOf_any
  obtain ⟨a, b, c, d, e⟩ := x
  obtain ⟨Z, eZ⟩ : ∃ Z, Z = chk ⟨a, b, c, d, e⟩ := ⟨_, rfl⟩
  have HZ : Hid (Z = chk ⟨a, b, c, d, e⟩) := eZ
  show Calls _ _ #[.agg #[.int .i64 a, .int .i64 b, .int .i64 c, .int .i64 d, .int .i64 e]] _ _
  rw [← eZ]
  clear eZ
  go_enter Tryd.func11, Tryd.ntmps11
  go_wp2_with fail
  refine Calls.mono (HN.out _ _ _ _ _ _) ?_
  rintro r w1 ⟨rfl, k1⟩
  have K1 : Hid (Kept w w1) := ((Same.refl _ w).alloc _).trans' k1
  clear k1
  go_upto_region 2 with fail
  have KA : Hid (Kept w (w1.alloc (.cells #[.int .i64 a, .int .i64 b, .int .i64 c, .int .i64 d, .int .i64 e] 43))) := K1.out.alloc _
  have HB : Hid ((w1.alloc (.cells #[.int .i64 a, .int .i64 b, .int .i64 c, .int .i64 d, .int .i64 e] 43)).heap[w1.heap.size]? = some (.cells #[.int .i64 a, .int .i64 b, .int .i64 c, .int .i64 d, .int .i64 e] 43 (0, 0))) := heap_new _ _
  generalize w1.alloc (.cells #[.int .i64 a, .int .i64 b, .int .i64 c, .int .i64 d, .int .i64 e] 43) = WA at KA HB ⊢
  generalize w1.heap.size = g at HB ⊢
  go_wp2_with fail
  refine Calls.mono (HS.out _) ?_
  rintro r w2 ⟨X, rfl, hX, k2⟩
  have HX : Hid (StgV X) := hX
  have K2 : Hid (Kept w w2) := KA.out.trans' k2
  have B2 : Hid (w2.heap[g]? = some (.cells #[.int .i64 a, .int .i64 b, .int .i64 c, .int .i64 d, .int .i64 e] 43 (0, 0))) := (k2.block _ (lt_of_heap HB.out) (fun e => e)).trans HB.out
  clear k2 hX HB KA
  go_wp2_with fail
  go_loopw [9] (fun i wr => ∃ k : Nat, i = .int .i64 (k : Int) ∧ k ≤ 5 ∧ wr.heap[g]? = some (.cells #[.int .i64 a, .int .i64 b, .int .i64 c, .int .i64 d, .int .i64 e] 43 (0, 0)) ∧ Kept w wr ∧ (0 < k → 1200 ≤ a ∧ a ≤ 16777216) ∧ (1 < k → 2 ≤ b ∧ b ≤ 64) ∧ (2 < k → 0 ≤ c ∧ c ≤ 1048576) ∧ (3 < k → 0 ≤ d ∧ d ≤ 1099511627776) ∧ (4 < k → 0 ≤ e ∧ e ≤ 10000)) (fun i _ => 5 - (intOf i).toNat)
  case atStart => exact ⟨0, rfl, by omega, B2.out, K2.out, by omega, by omega, by omega, by omega, by omega⟩
  case round =>
    obtain ⟨k, rfl, hk, h1, h3, p⟩ := hrel
    rename World => W
    have H1 : Hid (W.heap[g]? = some (.cells #[.int .i64 a, .int .i64 b, .int .i64 c, .int .i64 d, .int .i64 e] 43 (0, 0)) ∧ Kept w W) := ⟨h1, h3⟩
    have hb := lt_of_heap h1
    have c0 : W.cell? ⟨g, 0, none⟩ = some (.int .i64 a) := cell_of h1 0
    have c1 : W.cell? ⟨g, 1, none⟩ = some (.int .i64 b) := cell_of h1 1
    have c2 : W.cell? ⟨g, 2, none⟩ = some (.int .i64 c) := cell_of h1 2
    have c3 : W.cell? ⟨g, 3, none⟩ = some (.int .i64 d) := cell_of h1 3
    have c4 : W.cell? ⟨g, 4, none⟩ = some (.int .i64 e) := cell_of h1 4
    clear h1 h3
    have HP : Hid _ := p
    clear p
    have hc : k = 0 ∨ k = 1 ∨ k = 2 ∨ k = 3 ∨ k = 4 ∨ k = 5 := by omega
    rcases hc with rfl | rfl | rfl | rfl | rfl | rfl
    · have hx : ∀ w, _ := fun w => (stg_idx w X HX.out).1
      by_cases hlo : a < 1200
      · have q1 : decide (a < 1200) = true := decide_eq_true hlo
        have R : Hid (Z = 100) := by
          show _ = _
          have p := HP.out
          rw [HZ.out]
          unfold chk
          simp only
          rw [if_pos (.inl hlo)]
        clear hlo
        go_upto_region 5 with fail
        go_quiet (fail)
        go_wp2_with fail
        go_ret
        rw [R.out]
        exact ⟨rfl, (Same.drewN (H1.out.2.alloc _) _)⟩
      · have q1 : decide (a < 1200) = false := decide_eq_false hlo
        by_cases hhi : 16777216 < a
        · have q2 : decide (16777216 < a) = true := decide_eq_true hhi
          have R : Hid (Z = 100) := by
            show _ = _
            have p := HP.out
            rw [HZ.out]
            unfold chk
            simp only
            rw [if_pos (.inr hhi)]
          have HL : Hid (¬ a < 1200) := hlo
          clear hlo hhi
          go_upto_region 5 with fail
          go_quiet (fail)
          go_wp2_with fail
          go_ret
          rw [R.out]
          exact ⟨rfl, (Same.drewN (H1.out.2.alloc _) _)⟩
        · have q2 : decide (16777216 < a) = false := decide_eq_false hhi
          have HL : Hid (¬ a < 1200 ∧ ¬ 16777216 < a) := ⟨hlo, hhi⟩
          clear hlo hhi
          go_upto_region 5 with fail
          go_quiet (fail)
          go_wp2_with fail
          go_roundw
          case rel =>
            have p := HP.out
            have q := HL.out
            exact ⟨1, rfl, by omega, (heap_old _ _ hb).trans H1.out.1, (Same.drewN (H1.out.2.alloc _) _), by omega, by omega, by omega, by omega, by omega⟩
          case measure => simp [intOf]
    · have hx : ∀ w, _ := fun w => (stg_idx w X HX.out).2.1
      by_cases hlo : b < 2
      · have q1 : decide (b < 2) = true := decide_eq_true hlo
        have R : Hid (Z = 110) := by
          show _ = _
          have p := HP.out
          rw [HZ.out]
          unfold chk
          simp only
          rw [if_neg (by omega)]; rw [if_pos (.inl hlo)]
        clear hlo
        go_upto_region 5 with fail
        go_quiet (fail)
        go_wp2_with fail
        go_ret
        rw [R.out]
        exact ⟨rfl, (Same.drewN (H1.out.2.alloc _) _)⟩
      · have q1 : decide (b < 2) = false := decide_eq_false hlo
        by_cases hhi : 64 < b
        · have q2 : decide (64 < b) = true := decide_eq_true hhi
          have R : Hid (Z = 110) := by
            show _ = _
            have p := HP.out
            rw [HZ.out]
            unfold chk
            simp only
            rw [if_neg (by omega)]; rw [if_pos (.inr hhi)]
          have HL : Hid (¬ b < 2) := hlo
          clear hlo hhi
          go_upto_region 5 with fail
          go_quiet (fail)
          go_wp2_with fail
          go_ret
          rw [R.out]
          exact ⟨rfl, (Same.drewN (H1.out.2.alloc _) _)⟩
        · have q2 : decide (64 < b) = false := decide_eq_false hhi
          have HL : Hid (¬ b < 2 ∧ ¬ 64 < b) := ⟨hlo, hhi⟩
          clear hlo hhi
          go_upto_region 5 with fail
          go_quiet (fail)
          go_wp2_with fail
          go_roundw
          case rel =>
            have p := HP.out
            have q := HL.out
            exact ⟨2, rfl, by omega, (heap_old _ _ hb).trans H1.out.1, (Same.drewN (H1.out.2.alloc _) _), by omega, by omega, by omega, by omega, by omega⟩
          case measure => simp [intOf]
    · have hx : ∀ w, _ := fun w => (stg_idx w X HX.out).2.2.1
      by_cases hlo : c < 0
      · have q1 : decide (c < 0) = true := decide_eq_true hlo
        have R : Hid (Z = 160) := by
          show _ = _
          have p := HP.out
          rw [HZ.out]
          unfold chk
          simp only
          rw [if_neg (by omega)]; rw [if_neg (by omega)]; rw [if_pos (.inl hlo)]
        clear hlo
        go_upto_region 5 with fail
        go_quiet (fail)
        go_wp2_with fail
        go_ret
        rw [R.out]
        exact ⟨rfl, (Same.drewN (H1.out.2.alloc _) _)⟩
      · have q1 : decide (c < 0) = false := decide_eq_false hlo
        by_cases hhi : 1048576 < c
        · have q2 : decide (1048576 < c) = true := decide_eq_true hhi
          have R : Hid (Z = 160) := by
            show _ = _
            have p := HP.out
            rw [HZ.out]
            unfold chk
            simp only
            rw [if_neg (by omega)]; rw [if_neg (by omega)]; rw [if_pos (.inr hhi)]
          have HL : Hid (¬ c < 0) := hlo
          clear hlo hhi
          go_upto_region 5 with fail
          go_quiet (fail)
          go_wp2_with fail
          go_ret
          rw [R.out]
          exact ⟨rfl, (Same.drewN (H1.out.2.alloc _) _)⟩
        · have q2 : decide (1048576 < c) = false := decide_eq_false hhi
          have HL : Hid (¬ c < 0 ∧ ¬ 1048576 < c) := ⟨hlo, hhi⟩
          clear hlo hhi
          go_upto_region 5 with fail
          go_quiet (fail)
          go_wp2_with fail
          go_roundw
          case rel =>
            have p := HP.out
            have q := HL.out
            exact ⟨3, rfl, by omega, (heap_old _ _ hb).trans H1.out.1, (Same.drewN (H1.out.2.alloc _) _), by omega, by omega, by omega, by omega, by omega⟩
          case measure => simp [intOf]
    · have hx : ∀ w, _ := fun w => (stg_idx w X HX.out).2.2.2.1
      by_cases hlo : d < 0
      · have q1 : decide (d < 0) = true := decide_eq_true hlo
        have R : Hid (Z = 171) := by
          show _ = _
          have p := HP.out
          rw [HZ.out]
          unfold chk
          simp only
          rw [if_neg (by omega)]; rw [if_neg (by omega)]; rw [if_neg (by omega)]; rw [if_pos (.inl hlo)]
        clear hlo
        go_upto_region 5 with fail
        go_quiet (fail)
        go_wp2_with fail
        go_ret
        rw [R.out]
        exact ⟨rfl, (Same.drewN (H1.out.2.alloc _) _)⟩
      · have q1 : decide (d < 0) = false := decide_eq_false hlo
        by_cases hhi : 1099511627776 < d
        · have q2 : decide (1099511627776 < d) = true := decide_eq_true hhi
          have R : Hid (Z = 171) := by
            show _ = _
            have p := HP.out
            rw [HZ.out]
            unfold chk
            simp only
            rw [if_neg (by omega)]; rw [if_neg (by omega)]; rw [if_neg (by omega)]; rw [if_pos (.inr hhi)]
          have HL : Hid (¬ d < 0) := hlo
          clear hlo hhi
          go_upto_region 5 with fail
          go_quiet (fail)
          go_wp2_with fail
          go_ret
          rw [R.out]
          exact ⟨rfl, (Same.drewN (H1.out.2.alloc _) _)⟩
        · have q2 : decide (1099511627776 < d) = false := decide_eq_false hhi
          have HL : Hid (¬ d < 0 ∧ ¬ 1099511627776 < d) := ⟨hlo, hhi⟩
          clear hlo hhi
          go_upto_region 5 with fail
          go_quiet (fail)
          go_wp2_with fail
          go_roundw
          case rel =>
            have p := HP.out
            have q := HL.out
            exact ⟨4, rfl, by omega, (heap_old _ _ hb).trans H1.out.1, (Same.drewN (H1.out.2.alloc _) _), by omega, by omega, by omega, by omega, by omega⟩
          case measure => simp [intOf]
    · have hx : ∀ w, _ := fun w => (stg_idx w X HX.out).2.2.2.2
      by_cases hlo : e < 0
      · have q1 : decide (e < 0) = true := decide_eq_true hlo
        have R : Hid (Z = 180) := by
          show _ = _
          have p := HP.out
          rw [HZ.out]
          unfold chk
          simp only
          rw [if_neg (by omega)]; rw [if_neg (by omega)]; rw [if_neg (by omega)]; rw [if_neg (by omega)]; rw [if_pos (.inl hlo)]
        clear hlo
        go_upto_region 5 with fail
        go_quiet (fail)
        go_wp2_with fail
        go_ret
        rw [R.out]
        exact ⟨rfl, (Same.drewN (H1.out.2.alloc _) _)⟩
      · have q1 : decide (e < 0) = false := decide_eq_false hlo
        by_cases hhi : 10000 < e
        · have q2 : decide (10000 < e) = true := decide_eq_true hhi
          have R : Hid (Z = 180) := by
            show _ = _
            have p := HP.out
            rw [HZ.out]
            unfold chk
            simp only
            rw [if_neg (by omega)]; rw [if_neg (by omega)]; rw [if_neg (by omega)]; rw [if_neg (by omega)]; rw [if_pos (.inr hhi)]
          have HL : Hid (¬ e < 0) := hlo
          clear hlo hhi
          go_upto_region 5 with fail
          go_quiet (fail)
          go_wp2_with fail
          go_ret
          rw [R.out]
          exact ⟨rfl, (Same.drewN (H1.out.2.alloc _) _)⟩
        · have q2 : decide (10000 < e) = false := decide_eq_false hhi
          have HL : Hid (¬ e < 0 ∧ ¬ 10000 < e) := ⟨hlo, hhi⟩
          clear hlo hhi
          go_upto_region 5 with fail
          go_quiet (fail)
          go_wp2_with fail
          go_roundw
          case rel =>
            have p := HP.out
            have q := HL.out
            exact ⟨5, rfl, by omega, (heap_old _ _ hb).trans H1.out.1, (Same.drewN (H1.out.2.alloc _) _), by omega, by omega, by omega, by omega, by omega⟩
          case measure => simp [intOf]
    · have R : Hid (Z = 0) := by
        show _ = _
        have p := HP.out
        rw [HZ.out]
        unfold chk
        simp only
        rw [if_neg (by omega), if_neg (by omega), if_neg (by omega), if_neg (by omega), if_neg (by omega)]
      go_wp2_with fail
      go_ret
      rw [R.out]
      exact ⟨rfl, H1.out.2⟩
end Go.Proofs.YtolooejcgdknnaaDoor
