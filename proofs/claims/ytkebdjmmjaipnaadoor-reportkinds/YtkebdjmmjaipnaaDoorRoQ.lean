/- What is proved: ReportKinds: for every two numbers the law answers true; conditions: that the tables lie as their texts lay them, that the library's variable of the greatest length holds a number. -/
import Derived.Test.YtkebdjmmjaipnaaDoorRoO
namespace Go.Proofs.YtkebdjmmjaipnaaDoor
open Go.RowKit

theorem outL_head (o : OuM) : ∃ r, outL o = (headB ++ oWord o.kd ++ [10]) ++ r ∧ 0 < r.length := by
  unfold outL frontL
  simp only [List.append_assoc]
  refine ⟨_, rfl, ?_⟩
  simp only [List.length_append]
  have : footB.length = 4 := rfl
  omega
theorem oWord_len (k : Int) : (oWord k).length ≤ 9 ∧ (Vi.wi k 1 9 = true → oWord k ≠ []) := by
  by_cases h : Vi.wi k 1 9 = true
  · have h2 := Vi.wi_iff.1 h
    obtain ⟨i, rfl⟩ : ∃ i : Nat, k = (i : Int) := ⟨k.toNat, by omega⟩
    have hi : i < 10 := by omega
    match i, hi, h with
    | 0, _, h => exact absurd h (by decide)
    | 1, _, _ => exact ⟨by decide, fun _ => by decide⟩
    | 2, _, _ => exact ⟨by decide, fun _ => by decide⟩
    | 3, _, _ => exact ⟨by decide, fun _ => by decide⟩
    | 4, _, _ => exact ⟨by decide, fun _ => by decide⟩
    | 5, _, _ => exact ⟨by decide, fun _ => by decide⟩
    | 6, _, _ => exact ⟨by decide, fun _ => by decide⟩
    | 7, _, _ => exact ⟨by decide, fun _ => by decide⟩
    | 8, _, _ => exact ⟨by decide, fun _ => by decide⟩
    | 9, _, _ => exact ⟨by decide, fun _ => by decide⟩
    | n + 10, h, _ => omega
  · have e : oWord k = [] := if_neg h
    rw [e]
    exact ⟨Nat.zero_le _, fun h2 => absurd h2 h⟩
/-- The outcome that the law builds. -/
def ouK (k c : Int) : OuM := ⟨k, if k ≤ 3 then c else 0, 0, 0, if k = 9 then 1 else 0, []⟩
theorem okO_bad {o : OuM} (h : Vi.wi o.kd 1 9 = false) : okO o = false := by
  unfold okO
  rw [h]
  rfl
theorem okO_K (k c : Int) (h : Vi.wi k 1 9 = true) : okO (ouK k c) = (decide (3 < k) || Vi.wi c 1 999) := by
  have h2 := Vi.wi_iff.1 h
  obtain ⟨i, rfl⟩ : ∃ i : Nat, k = (i : Int) := ⟨k.toNat, by omega⟩
  have hi : i < 10 := by omega
  have z : (allV ([] : List Vi.Vl) && Vi.srd []) = true := by decide +kernel
  match i, hi, h with
  | 0, _, h => exact absurd h (by decide)
  | 1, _, _ => simp [okO, ouK, fit, hc, ho, ht, hl, z, Vi.wi]; omega
  | 2, _, _ => simp [okO, ouK, fit, hc, ho, ht, hl, z, Vi.wi]; omega
  | 3, _, _ => simp [okO, ouK, fit, hc, ho, ht, hl, z, Vi.wi]; omega
  | 4, _, _ => exact (show okO ⟨4, 0, 0, 0, 0, []⟩ = true by decide +kernel)
  | 5, _, _ => exact (show okO ⟨5, 0, 0, 0, 0, []⟩ = true by decide +kernel)
  | 6, _, _ => exact (show okO ⟨6, 0, 0, 0, 0, []⟩ = true by decide +kernel)
  | 7, _, _ => exact (show okO ⟨7, 0, 0, 0, 0, []⟩ = true by decide +kernel)
  | 8, _, _ => exact (show okO ⟨8, 0, 0, 0, 0, []⟩ = true by decide +kernel)
  | 9, _, _ => exact (show okO ⟨9, 0, 0, 0, 1, []⟩ = true by decide +kernel)
  | n + 10, h, _ => omega
set_option maxRecDepth 100000 in
set_option maxHeartbeats 3200000 in
theorem kinds_law (w : World) (k c : Int) (tb : Tab w.heap.size w) (hm : Mx w) (hw : Wds w) : Calls Tryd.prog 8 #[.int .i64 k, .int .i64 c] w fun e w' => e = .returned (.bool true) ∧ Kept w w' := by
  have HA : Hid _ := anchor_any22 w tb hm hw
  have HK : Hid (∀ W, _) := fun W => rkind_any k W
  have HC : Hid (∀ W, Kept w W → _) := fun W (q : Kept w W) => kind22 k W (hw.on q)
  have HV : Hid (∀ W, Calls Tryd.prog 13 #[ouV ⟨k, 0, 0, 0, 0, []⟩ (.slice none 0 0)] W fun e w' => e = .returned (.bool (okO ⟨k, 0, 0, 0, 0, []⟩)) ∧ Kept W w') := fun W => (valid22 W ⟨k, 0, 0, 0, 0, []⟩ none 0 (fun j x hx => by cases hx) (by show (0 : Nat) ≤ _; omega)).mono fun e w' ⟨h1, h2⟩ => ⟨h1, Vi.Grw.kept h2⟩
  have HR : Hid (∀ W, Kept w W → Calls Tryd.prog 12 #[ouV (ouK k c) (.slice none 0 0)] W fun e w' => e = .returned (.tuple #[tx (rendT (ouK k c)).1, .int .i64 (rendT (ouK k c)).2]) ∧ Kept W w') := fun W q => render22 W (ouK k c) none 0 (fun j x hx => by cases hx) (by show (0 : Nat) ≤ _; omega) (tb.up (Nat.le_refl _) q) (hw.on q)
  have hwl := oWord_len k
  clear tb hm hw
  have hln : ∀ a b : List UInt8, _ := tx_beq
  have hl2 : ∀ a : List UInt8, (((⟨a.toArray⟩ : ByteArray).toList != (⟨a.toArray⟩ : ByteArray).toList)) = false := fun a => by rw [bne, tx_beq, decide_eq_true rfl]; rfl
  cases hk : Vi.wi k 1 9 with
  | false =>
    have e0 : oWord k = [] := if_neg (by rw [hk]; decide)
    rw [e0] at HK HC
    rw [okO_bad hk] at HV
    unfold ouV at HV
    dsimp only at HV
    clear HR hwl e0 hk
    go_enter Tryd.func8, Tryd.ntmps8
    go_wp2_with fail
    refine Calls.mono HA.out ?_
    rintro e w1 ⟨rfl, k1⟩
    have K1 : Hid (Kept w w1) := k1
    clear k1 HA
    go_wp2_with fail
    refine Calls.mono (HK.out _) ?_
    rintro e w2 ⟨rfl, k2⟩
    have K2 : Hid (Kept w w2) := K1.out.trans' k2
    clear k2 K1 HK
    go_wp2_with fail
    refine Calls.mono (HC.out _ K2.out) ?_
    rintro e w3 ⟨rfl, e3⟩
    subst e3
    go_wp2_with fail
    refine Calls.mono (HV.out _) ?_
    rintro e w4 ⟨rfl, k4⟩
    have K4 : Hid (Kept w w4) := K2.out.trans' k4
    clear k4 K2 HV
    go_wp2_with fail
    go_ret
    exact ⟨rfl, K4.out⟩
  | true =>
    obtain ⟨wl, wn⟩ := hwl
    have wn := wn hk
    have ER : rendT (ouK k c) = if (decide (3 < k) || Vi.wi c 1 999) = true then (outL (ouK k c), 0) else ([], 220) := by
      unfold rendT
      rw [okO_K k c hk]
    obtain ⟨r, er, hr⟩ := outL_head (ouK k c)
    have ek : (ouK k c).kd = k := rfl
    rw [ek] at er
    rw [er] at ER
    generalize rendT (ouK k c) = RT at *
    unfold ouV ouK at HR
    dsimp only at HR
    generalize oWord k = WD at *
    clear HV er ek
    obtain ⟨HD, eHD⟩ : ∃ HD, HD = headB ++ WD ++ [10] := ⟨_, rfl⟩
    have hHD : HD.length ≤ 28 := by rw [eHD]; simp only [List.length_append, List.length_singleton]; have : headB.length = 18 := rfl; omega
    rw [← eHD] at ER
    have EHD : Hid (([112, 114, 111, 99, 116, 111, 114, 32, 49, 10, 111, 117, 116, 99, 111, 109, 101, 32] ++ WD ++ [10] : List UInt8) = HD) := eHD.symm
    clear eHD
    have HS : Hid ((HD ++ r).take HD.length = HD) := List.take_left' rfl
    have HS2 : (HD.length : Int) < ((HD ++ r).length : Int) := by rw [List.length_append]; omega
    have HS3 : Hid (∀ W, (Instr.slice 9 (tx (HD ++ r)) none (some (.int .i64 (HD.length : Int))) none).run Tryd.prog W = .ok (tx HD) W) := fun W => by
      rw [to_tx (HD ++ r) HD.length (by rw [List.length_append]; omega) W, HS.out]
    generalize HD ++ r = S at *
    have hwe : WD.isEmpty = false := by cases WD with
      | nil => exact absurd rfl wn
      | cons x l => rfl
    have hsz : ∀ l : List UInt8, (⟨l.toArray⟩ : ByteArray).size = l.length := fun l => rfl
    by_cases h3 : k ≤ 3
    · have d3 : decide (k ≤ 3) = true := decide_eq_true h3
      have h9 : ¬ k = 9 := by omega
      have d9 : (k == 9) = false := beq_eq_false_iff_ne.2 h9
      rw [if_pos h3, if_neg h9] at HR
      rw [decide_eq_false (by omega : ¬ 3 < k), Bool.false_or] at ER
      go_enter Tryd.func8, Tryd.ntmps8
      go_wp2_with fail
      refine Calls.mono HA.out ?_
      rintro e w1 ⟨rfl, k1⟩
      have K1 : Hid (Kept w w1) := k1
      clear k1 HA
      go_wp2_with fail
      refine Calls.mono (HK.out _) ?_
      rintro e w2 ⟨rfl, k2⟩
      have K2 : Hid (Kept w w2) := K1.out.trans' k2
      clear k2 K1 HK
      go_wp2_with fail
      refine Calls.mono (HC.out _ K2.out) ?_
      rintro e w3 ⟨rfl, e3⟩
      subst e3
      obtain ⟨W4, e4⟩ : ∃ W4, W4 = (w3.alloc (.cells #[.int .i64 k, .int .i64 0, .int .i64 0, .int .i64 0, .int .i64 0, .slice none 0 0] 25 (0, 0))) := ⟨_, rfl⟩
      have B4 : Hid (W4.heap[w3.heap.size]? = some (.cells #[.int .i64 k, .int .i64 0, .int .i64 0, .int .i64 0, .int .i64 0, .slice none 0 0] 25 (0, 0))) := by rw [e4]; exact heap_new w3 _
      have K4 : Hid (Kept w W4 ∧ w.heap.size ≤ w3.heap.size) := by rw [e4]; exact ⟨K2.out.alloc _, K2.out.size⟩
      go_upto_region 9 with fail
      rw [← e4]
      clear e4 K2 HC
      obtain ⟨W5, e5⟩ : ∃ W5, W5 = W4.setCell ⟨w3.heap.size, 1, none⟩ (.int .i64 c) := ⟨_, rfl⟩
      have k5 : Same (fun j => j = w3.heap.size) W4 W5 := by rw [e5]; exact (Same.refl (fun j => j = w3.heap.size) W4).setCell _ (.inr rfl) _
      have B5 : Hid (W5.heap[w3.heap.size]? = some (.cells #[.int .i64 k, .int .i64 c, .int .i64 0, .int .i64 0, .int .i64 0, .slice none 0 0] 25 (0, 0))) := by rw [e5]; exact (setCell_at B4.out 1 _).trans (by simp)
      have K5 : Hid (Kept w W5) := Same.trans K4.out.1 k5 (fun i hi e => by have := K4.out.2; omega)
      have g0 := frozen_of B4.out 1
      have x0 : W4.cell? ⟨w3.heap.size, 1, none⟩ = some (.int .i64 0) := (cell_of B4.out 1).trans rfl
      have lb := lt_of_heap B4.out
      clear k5
      go_upto_region 11 with fail
      rw [← e5]
      clear e5 x0 g0 lb B4 K4
      obtain ⟨d0, d1, d2, d3', d4, d5⟩ := ou_obj B5.out
      have ld := lt_of_heap B5.out
      go_wp2_with fail
      refine Calls.mono (HR.out _ K5.out) ?_
      rintro e w6 ⟨rfl, k6⟩
      have K6 : Hid (Kept w w6) := K5.out.trans' k6
      clear k6 K5 B5 d0 d1 d2 d3' d4 d5 ld HR
      by_cases c1 : c < 1
      · have b1 : decide (c < 1) = true := decide_eq_true c1
        rw [if_neg (fun h => by have := Vi.wi_iff.1 h; omega)] at ER
        have ER2 : Hid (RT = ([], 220)) := ER
        clear ER
        rw [ER2.out]
        go_wp2_with fail
        go_ret
        exact ⟨rfl, K6.out⟩
      · have b1 : decide (c < 1) = false := decide_eq_false c1
        by_cases c2 : c > 999
        · have b2 : decide (c > 999) = true := decide_eq_true c2
          have b3 : 999 < c := c2
          rw [if_neg (fun h => by have := Vi.wi_iff.1 h; omega)] at ER
          have ER2 : Hid (RT = ([], 220)) := ER
          clear ER
          rw [ER2.out]
          go_wp2_with fail
          go_ret
          exact ⟨rfl, K6.out⟩
        · have b2 : decide (c > 999) = false := decide_eq_false c2
          have b3 : ¬ 999 < c := c2
          rw [if_pos (Vi.wi_iff.2 ⟨by omega, by omega⟩)] at ER
          have ER2 : Hid (RT = (S, 0)) := ER
          clear ER
          rw [ER2.out]
          go_upto_region 17 with fail
          simp only [add_bytes]
          rw [EHD.out]
          have hs3 : ∀ W, _ := HS3.out
          go_wp2_with fail
          go_ret
          exact ⟨rfl, K6.out⟩
    · have d3 : decide (k ≤ 3) = false := decide_eq_false h3
      rw [if_neg h3] at HR
      rw [decide_eq_true (by omega : 3 < k), Bool.true_or, if_pos rfl] at ER
      have ER2 : Hid (RT = (S, 0)) := ER
      clear ER
      by_cases h9 : k = 9
      · subst h9
        rw [if_pos rfl] at HR
        clear hk d3 h3
        go_enter Tryd.func8, Tryd.ntmps8
        go_wp2_with fail
        refine Calls.mono HA.out ?_
        rintro e w1 ⟨rfl, k1⟩
        have K1 : Hid (Kept w w1) := k1
        clear k1 HA
        go_wp2_with fail
        refine Calls.mono (HK.out _) ?_
        rintro e w2 ⟨rfl, k2⟩
        have K2 : Hid (Kept w w2) := K1.out.trans' k2
        clear k2 K1 HK
        go_wp2_with fail
        refine Calls.mono (HC.out _ K2.out) ?_
        rintro e w3 ⟨rfl, e3⟩
        subst e3
        obtain ⟨W4, e4⟩ : ∃ W4, W4 = (w3.alloc (.cells #[.int .i64 9, .int .i64 0, .int .i64 0, .int .i64 0, .int .i64 0, .slice none 0 0] 25 (0, 0))) := ⟨_, rfl⟩
        have B4 : Hid (W4.heap[w3.heap.size]? = some (.cells #[.int .i64 9, .int .i64 0, .int .i64 0, .int .i64 0, .int .i64 0, .slice none 0 0] 25 (0, 0))) := by rw [e4]; exact heap_new w3 _
        have K4 : Hid (Kept w W4 ∧ w.heap.size ≤ w3.heap.size) := by rw [e4]; exact ⟨K2.out.alloc _, K2.out.size⟩
        go_upto_region 9 with fail
        rw [← e4]
        clear e4 K2 HC
        obtain ⟨W5, e5⟩ : ∃ W5, W5 = W4.setCell ⟨w3.heap.size, 4, none⟩ (.int .i64 1) := ⟨_, rfl⟩
        have k5 : Same (fun j => j = w3.heap.size) W4 W5 := by rw [e5]; exact (Same.refl (fun j => j = w3.heap.size) W4).setCell _ (.inr rfl) _
        have B5 : Hid (W5.heap[w3.heap.size]? = some (.cells #[.int .i64 9, .int .i64 0, .int .i64 0, .int .i64 0, .int .i64 1, .slice none 0 0] 25 (0, 0))) := by rw [e5]; exact (setCell_at B4.out 4 _).trans (by simp)
        have K5 : Hid (Kept w W5) := Same.trans K4.out.1 k5 (fun i hi e => by have := K4.out.2; omega)
        have g0 := frozen_of B4.out 4
        have x0 : W4.cell? ⟨w3.heap.size, 4, none⟩ = some (.int .i64 0) := (cell_of B4.out 4).trans rfl
        have lb := lt_of_heap B4.out
        clear k5
        go_upto_region 13 with fail
        rw [← e5]
        clear e5 x0 g0 lb B4 K4
        obtain ⟨d0, d1, d2, d3', d4, d5⟩ := ou_obj B5.out
        have ld := lt_of_heap B5.out
        go_wp2_with fail
        refine Calls.mono (HR.out _ K5.out) ?_
        rintro e w6 ⟨rfl, k6⟩
        have K6 : Hid (Kept w w6) := K5.out.trans' k6
        clear k6 K5 B5 d0 d1 d2 d3' d4 d5 ld HR
        rw [ER2.out]
        go_upto_region 17 with fail
        simp only [add_bytes]
        rw [EHD.out]
        have hs3 : ∀ W, _ := HS3.out
        go_wp2_with fail
        go_ret
        exact ⟨rfl, K6.out⟩
      · have d9 : (k == 9) = false := beq_eq_false_iff_ne.2 h9
        rw [if_neg h9] at HR
        go_enter Tryd.func8, Tryd.ntmps8
        go_wp2_with fail
        refine Calls.mono HA.out ?_
        rintro e w1 ⟨rfl, k1⟩
        have K1 : Hid (Kept w w1) := k1
        clear k1 HA
        go_wp2_with fail
        refine Calls.mono (HK.out _) ?_
        rintro e w2 ⟨rfl, k2⟩
        have K2 : Hid (Kept w w2) := K1.out.trans' k2
        clear k2 K1 HK
        go_wp2_with fail
        refine Calls.mono (HC.out _ K2.out) ?_
        rintro e w3 ⟨rfl, e3⟩
        subst e3
        obtain ⟨W4, e4⟩ : ∃ W4, W4 = (w3.alloc (.cells #[.int .i64 k, .int .i64 0, .int .i64 0, .int .i64 0, .int .i64 0, .slice none 0 0] 25 (0, 0))) := ⟨_, rfl⟩
        have B4 : Hid (W4.heap[w3.heap.size]? = some (.cells #[.int .i64 k, .int .i64 0, .int .i64 0, .int .i64 0, .int .i64 0, .slice none 0 0] 25 (0, 0))) := by rw [e4]; exact heap_new w3 _
        have K4 : Hid (Kept w W4 ∧ w.heap.size ≤ w3.heap.size) := by rw [e4]; exact ⟨K2.out.alloc _, K2.out.size⟩
        go_upto_region 9 with fail
        rw [← e4]
        clear e4 K2 HC
        have B5 : Hid _ := B4.out
        have K5 : Hid (Kept w W4) := K4.out.1
        clear B4 K4
        obtain ⟨d0, d1, d2, d3', d4, d5⟩ := ou_obj B5.out
        have ld := lt_of_heap B5.out
        go_wp2_with fail
        refine Calls.mono (HR.out _ K5.out) ?_
        rintro e w6 ⟨rfl, k6⟩
        have K6 : Hid (Kept w w6) := K5.out.trans' k6
        clear k6 K5 B5 d0 d1 d2 d3' d4 d5 ld HR
        rw [ER2.out]
        go_upto_region 17 with fail
        simp only [add_bytes]
        rw [EHD.out]
        have hs3 : ∀ W, _ := HS3.out
        go_wp2_with fail
        go_ret
        exact ⟨rfl, K6.out⟩
end Go.Proofs.YtkebdjmmjaipnaaDoor
