/- What is proved: the document's Read; condition: the line's length. -/
import Derived.Test.YtlldgibpajbabaaDoorNoRt
namespace Go.Proofs.YtlldgibpajbabaaDoor
open Go.RowKit

/-- What Read answers. -/
def ReadP (w : World) (l : List UInt8) (e : Ending) (w' : World) : Prop := ∃ t' a c, e = .returned (.tuple #[txV t' (.slice a t'.ops.length c), .bool (rdX l).isSome]) ∧ (∀ t, rdX l = some t → t' = t) ∧ OwnO w.heap.size w' (.slice a t'.ops.length c) t'.ops ∧ Kept w w'
set_option maxRecDepth 100000 in
set_option maxHeartbeats 3200000 in
theorem read_any (l : List UInt8) (w : World) (hl : l.length ≤ 1048576) : Calls Tryd.prog 20 #[tx l] w (ReadP w l) := by
  unfold ReadP
  have HH : Hid (∀ w, _) := heads_any
  have HB : Hid (∀ k (p : List UInt8) w, k ≤ l.length → p.length ≤ 281474976710656 → _) := fun k p w h1 h2 => begins_any l k p w h1 (by omega) h2
  have HU : Hid (∀ k c w, k ≤ l.length → _) := fun k c w h => upTo_any l k c w h (by omega)
  have HN : Hid (∀ l w, _) := rnumber_any21
  have HP : Hid (∀ p w, p.length ≤ 140737488351232 → Calls Tryd.prog 39 #[tx p] w (OpP w p)) := operation_any
  obtain ⟨W0, e0⟩ : ∃ W0, W0 = ((w.alloc (.cells txz 25 (0, 0))).alloc (.cells txz 25 (0, 0))).alloc (.cells #[.int .i64 0, .int .i64 0, .int .i64 0, .int .i64 0, .int .i64 0, .int .i64 0] 74 (0, 0)) := ⟨_, rfl⟩
  have K0 : Hid (Kept w W0) := by rw [e0]; exact (((Same.refl _ w).alloc _).alloc _).alloc _
  have Z0 : Hid (W0.heap[w.heap.size]? = some (.cells txz 25 (0, 0)) ∧ W0.heap[w.heap.size + 1]? = some (.cells txz 25 (0, 0)) ∧ W0.heap[w.heap.size + 2]? = some (.cells #[.int .i64 0, .int .i64 0, .int .i64 0, .int .i64 0, .int .i64 0, .int .i64 0] 74 (0, 0))) := by
    rw [e0]
    obtain ⟨h1, h2⟩ := two_new w (.cells txz 25 (0, 0)) (.cells txz 25 (0, 0))
    refine ⟨(heap_old _ _ (lt_of_heap h1)).trans h1, (heap_old _ _ (lt_of_heap h2)).trans h2, ?_⟩
    have h3 := heap_new ((w.alloc (.cells txz 25 (0, 0))).alloc (.cells txz 25 (0, 0))) (.cells #[.int .i64 0, .int .i64 0, .int .i64 0, .int .i64 0, .int .i64 0, .int .i64 0] 74 (0, 0))
    rw [World.size_alloc, World.size_alloc] at h3
    exact h3
  unfold txz at e0
  go_enter Tryd.func20, Tryd.ntmps20
  go_upto_region 3 with fail
  rw [← e0]
  clear e0
  go_wp2_with fail
  refine Calls.mono (HH.out _) ?_
  rintro e w1 ⟨rfl, k1⟩
  obtain ⟨W2, e2⟩ : ∃ W2, W2 = (w1.alloc (.cells #[.string ⟨#[115]⟩, .string ⟨#[113]⟩, .string ⟨#[116]⟩, .string ⟨#[]⟩, .string ⟨#[99]⟩, .string ⟨#[]⟩] 75 (0, 0))).alloc (.cells #[.int .u8 32, .int .u8 32, .int .u8 45, .int .u8 32, .int .u8 45, .int .u8 32] 76 (0, 0)) := ⟨_, rfl⟩
  have k2 : Kept w1 W2 := by rw [e2]; exact ((Same.refl _ w1).alloc _).alloc _
  have R2 : Hid (Rx w W2 w1.heap.size []) := by
    have k := k1.trans' k2
    have hh := two_new w1 (.cells #[.string ⟨#[115]⟩, .string ⟨#[113]⟩, .string ⟨#[116]⟩, .string ⟨#[]⟩, .string ⟨#[99]⟩, .string ⟨#[]⟩] 75 (0, 0)) (.cells #[.int .u8 32, .int .u8 32, .int .u8 45, .int .u8 32, .int .u8 45, .int .u8 32] 76 (0, 0))
    rw [← e2] at hh
    obtain ⟨q2, q4, q5⟩ := Z0.out
    exact ⟨(k.block _ (lt_of_heap q2) (fun e => e)).trans q2, (k.block _ (lt_of_heap q4) (fun e => e)).trans q4, (k.block _ (lt_of_heap q5) (fun e => e)).trans q5, hh.1, hh.2, K0.out.trans' k, Nat.le_trans (lt_of_heap q5) k1.size⟩
  go_upto_region 4 with fail
  rw [← e2]
  clear e2 k1 k2 K0 Z0 HH
  generalize w1.heap.size = b6 at *
  go_wp2_with fail
  go_loopw [8, 9] (fun v8 v9 w' => ∃ (k i : Nat) (acc : List Nat), v8 = .int .i64 (k : Int) ∧ v9 = .int .i64 (i : Int) ∧ i ≤ 6 ∧ acc.length = i ∧ k ≤ l.length ∧ Rx w w' b6 acc ∧ numsX (hd6.drop i) acc (l.drop k) = numsX hd6 [] l) (fun _ v9 _ => 6 - (intOf v9).toNat)
  case atStart => exact ⟨0, 0, [], rfl, rfl, by omega, rfl, by omega, R2.out, rfl⟩
  case round =>
    obtain ⟨k, i, acc, rfl, rfl, hi, hacc, hk, rx, en⟩ := hrel
    have R : Hid (Rx w wr b6 acc) := rx
    have EN : Hid _ := en
    have HA : Hid _ := hacc
    have lo := R.out.lo
    obtain ⟨⟨x0, x1, x2, x3, x4, x5⟩, -⟩ := six_obj R.out.b6
    obtain ⟨⟨y0, y1, y2, y3, y4, y5⟩, -⟩ := six_obj R.out.b7
    obtain ⟨⟨s0, s1, s2, s3, s4, s5⟩, z0, z1, z2, z3, z4, z5⟩ := six_obj R.out.b5
    have R4 : Hid _ := R.out.b4
    have R3 : Hid _ := R.out.b2
    unfold txz at R4 R3
    obtain ⟨⟨p0, p1, p2, p3, p4, p5, p6, p7⟩, -⟩ := tx_obj R4.out
    obtain ⟨⟨t0, t1, t2, t3, t4, t5, t6, t7⟩, q0, q1, q2, q3, q4, q5, q6, q7⟩ := tx_obj R3.out
    have l6 := lt_of_heap R.out.b6
    have l7 := lt_of_heap R.out.b7
    have l5 := lt_of_heap R.out.b5
    have l4 := lt_of_heap R.out.b4
    have l2 := lt_of_heap R.out.b2
    clear rx en hacc R4 R3
    by_cases h6 : i < 6
    · have hc6 : i = 0 ∨ i = 1 ∨ i = 2 ∨ i = 3 ∨ i = 4 ∨ i = 5 := by omega
      clear h6 hi
      rcases hc6 with rfl | rfl | rfl | rfl | rfl | rfl
      · -- 0
        have ENX : Hid ((match nstep [115] 32 (l.drop k) with | none => none | some (n, r) => numsX (hd6.drop 1) (acc ++ [n]) r) = numsX hd6 [] l) := by
          show _ = _
          rw [← EN.out]
          rfl
        go_wp2_with fail
        refine Calls.mono (HB.out k [115] _ hk (by decide)) ?_
        rintro e w3 ⟨rfl, e3⟩
        subst e3
        cases hp : Lib.hasPrefix (l.drop k) [115] with
        | false =>
          have EF : Hid (rdX l = none) := by
            show _ = _
            have e9 := ENX.out
            unfold nstep at e9
            rw [hp] at e9
            unfold rdX
            rw [← e9]
            rfl
          go_wp2_with fail
          refine bodyPost_ret (results_ct (a := 2) (b := 3) (t := 25) rfl rfl (loadVar_tx (put8_at R.out.b2 _ _ _ _ _ _ _ _))) rfl ?_
          rw [EF.out]
          exact ⟨tz0, none, 0, rfl, fun t h => by (cases h), World.ownsRow_nil _ _ _ _, Same.trans R.out.kp (put8_same ..) (fun i hi e => by omega)⟩
        | true =>
          have hk2 := has_le hk hp
          have NA : Hid _ := nstep_at [115] 32 hk hp
          simp only [List.length_cons, List.length_nil, Nat.zero_add] at hk2 NA
          have wk : wrap64 ((k : Int) + 1) = ((k + 1 : Nat) : Int) := by unfold wrap64; omega
          obtain ⟨K, eK⟩ : ∃ K, K = k + 1 := ⟨_, rfl⟩
          rw [← eK] at hk2 NA wk
          have eKi : (k : Int) + 1 = (K : Int) := by omega
          have EK : Hid _ := eK
          clear eK
          go_wp2_with fail
          try rw [eKi]
          refine Calls.mono (HU.out K 32 _ hk2) ?_
          rintro e w4 ⟨rfl, e4⟩
          subst e4
          obtain ⟨E1, E2⟩ := upT_le l (k := K) 32 hk2
          generalize upT l K 32 = E at *
          have NB : Hid _ := NA
          clear NA
          by_cases hE : E = l.length
          · have EF : Hid (rdX l = none) := by
              show _ = _
              have e9 := ENX.out
              rw [NB.out, if_pos hE] at e9
              unfold rdX
              rw [← e9]
            have g1 : ((E : Int) == (l.length : Int)) = true := by rw [hE]; simp
            clear hE
            go_wp2_with fail
            refine bodyPost_ret (results_ct (a := 2) (b := 3) (t := 25) rfl rfl (loadVar_tx (put8_at R.out.b2 _ _ _ _ _ _ _ _))) rfl ?_
            rw [EF.out]
            exact ⟨tz0, none, 0, rfl, fun t h => by (cases h), World.ownsRow_nil _ _ _ _, Same.trans R.out.kp (put8_same ..) (fun i hi e => by omega)⟩
          · have g1 : ((E : Int) == (l.length : Int)) = false := beq_eq_false_iff_ne.2 (fun e => hE (by omega))
            have hs : ∀ w, _ := mid_tx l K E E1 E2
            have hE1 : E + 1 ≤ l.length := by omega
            have NC : Hid _ := NB.out.trans (if_neg hE)
            clear hE NB
            generalize (l.drop K).take (E - K) = PC at *
            go_wp2_with fail
            refine Calls.mono (HN.out PC _) ?_
            rintro e w5 ⟨rfl, e5⟩
            subst e5
            generalize numb PC = on at *
            cases on with
            | none =>
              have EF : Hid (rdX l = none) := by
                show _ = _
                have e9 := ENX.out
                rw [NC.out] at e9
                unfold rdX
                rw [← e9]
              simp only [rnV]
              go_wp2_with fail
              refine bodyPost_ret (results_ct (a := 2) (b := 3) (t := 25) rfl rfl (loadVar_tx (put8_at R.out.b2 _ _ _ _ _ _ _ _))) rfl ?_
              rw [EF.out]
              exact ⟨tz0, none, 0, rfl, fun t h => by (cases h), World.ownsRow_nil _ _ _ _, Same.trans R.out.kp (put8_same ..) (fun i hi e => by omega)⟩
            | some m =>
              simp only [rnV]
              have RS : Hid _ := R.out.set m (by have := HA.out; omega)
              rw [HA.out] at RS
              have EQ : Hid (numsX (hd6.drop 1) (acc ++ [m]) (l.drop (E + 1)) = numsX hd6 [] l) := by
                show _ = _
                rw [← ENX.out, NC.out]
              have wE : wrap64 ((E : Int) + 1) = (E : Int) + 1 := by unfold wrap64; omega
              go_wp2_with fail
              go_roundw
              case rel => exact ⟨E + 1, 1, acc ++ [m], by simp, by simp, by omega, by simp [HA.out], hE1, RS.out, EQ.out⟩
              case measure => simp only [intOf]; omega
      · -- 1
        have ENX : Hid ((match nstep [113] 32 (l.drop k) with | none => none | some (n, r) => numsX (hd6.drop 2) (acc ++ [n]) r) = numsX hd6 [] l) := by
          show _ = _
          rw [← EN.out]
          rfl
        go_wp2_with fail
        refine Calls.mono (HB.out k [113] _ hk (by decide)) ?_
        rintro e w3 ⟨rfl, e3⟩
        subst e3
        cases hp : Lib.hasPrefix (l.drop k) [113] with
        | false =>
          have EF : Hid (rdX l = none) := by
            show _ = _
            have e9 := ENX.out
            unfold nstep at e9
            rw [hp] at e9
            unfold rdX
            rw [← e9]
            rfl
          go_wp2_with fail
          refine bodyPost_ret (results_ct (a := 2) (b := 3) (t := 25) rfl rfl (loadVar_tx (put8_at R.out.b2 _ _ _ _ _ _ _ _))) rfl ?_
          rw [EF.out]
          exact ⟨tz0, none, 0, rfl, fun t h => by (cases h), World.ownsRow_nil _ _ _ _, Same.trans R.out.kp (put8_same ..) (fun i hi e => by omega)⟩
        | true =>
          have hk2 := has_le hk hp
          have NA : Hid _ := nstep_at [113] 32 hk hp
          simp only [List.length_cons, List.length_nil, Nat.zero_add] at hk2 NA
          have wk : wrap64 ((k : Int) + 1) = ((k + 1 : Nat) : Int) := by unfold wrap64; omega
          obtain ⟨K, eK⟩ : ∃ K, K = k + 1 := ⟨_, rfl⟩
          rw [← eK] at hk2 NA wk
          have eKi : (k : Int) + 1 = (K : Int) := by omega
          have EK : Hid _ := eK
          clear eK
          go_wp2_with fail
          try rw [eKi]
          refine Calls.mono (HU.out K 32 _ hk2) ?_
          rintro e w4 ⟨rfl, e4⟩
          subst e4
          obtain ⟨E1, E2⟩ := upT_le l (k := K) 32 hk2
          generalize upT l K 32 = E at *
          have NB : Hid _ := NA
          clear NA
          by_cases hE : E = l.length
          · have EF : Hid (rdX l = none) := by
              show _ = _
              have e9 := ENX.out
              rw [NB.out, if_pos hE] at e9
              unfold rdX
              rw [← e9]
            have g1 : ((E : Int) == (l.length : Int)) = true := by rw [hE]; simp
            clear hE
            go_wp2_with fail
            refine bodyPost_ret (results_ct (a := 2) (b := 3) (t := 25) rfl rfl (loadVar_tx (put8_at R.out.b2 _ _ _ _ _ _ _ _))) rfl ?_
            rw [EF.out]
            exact ⟨tz0, none, 0, rfl, fun t h => by (cases h), World.ownsRow_nil _ _ _ _, Same.trans R.out.kp (put8_same ..) (fun i hi e => by omega)⟩
          · have g1 : ((E : Int) == (l.length : Int)) = false := beq_eq_false_iff_ne.2 (fun e => hE (by omega))
            have hs : ∀ w, _ := mid_tx l K E E1 E2
            have hE1 : E + 1 ≤ l.length := by omega
            have NC : Hid _ := NB.out.trans (if_neg hE)
            clear hE NB
            generalize (l.drop K).take (E - K) = PC at *
            go_wp2_with fail
            refine Calls.mono (HN.out PC _) ?_
            rintro e w5 ⟨rfl, e5⟩
            subst e5
            generalize numb PC = on at *
            cases on with
            | none =>
              have EF : Hid (rdX l = none) := by
                show _ = _
                have e9 := ENX.out
                rw [NC.out] at e9
                unfold rdX
                rw [← e9]
              simp only [rnV]
              go_wp2_with fail
              refine bodyPost_ret (results_ct (a := 2) (b := 3) (t := 25) rfl rfl (loadVar_tx (put8_at R.out.b2 _ _ _ _ _ _ _ _))) rfl ?_
              rw [EF.out]
              exact ⟨tz0, none, 0, rfl, fun t h => by (cases h), World.ownsRow_nil _ _ _ _, Same.trans R.out.kp (put8_same ..) (fun i hi e => by omega)⟩
            | some m =>
              simp only [rnV]
              have RS : Hid _ := R.out.set m (by have := HA.out; omega)
              rw [HA.out] at RS
              have EQ : Hid (numsX (hd6.drop 2) (acc ++ [m]) (l.drop (E + 1)) = numsX hd6 [] l) := by
                show _ = _
                rw [← ENX.out, NC.out]
              have wE : wrap64 ((E : Int) + 1) = (E : Int) + 1 := by unfold wrap64; omega
              go_wp2_with fail
              go_roundw
              case rel => exact ⟨E + 1, 2, acc ++ [m], by simp, by simp, by omega, by simp [HA.out], hE1, RS.out, EQ.out⟩
              case measure => simp only [intOf]; omega
      · -- 2
        have ENX : Hid ((match nstep [116] 45 (l.drop k) with | none => none | some (n, r) => numsX (hd6.drop 3) (acc ++ [n]) r) = numsX hd6 [] l) := by
          show _ = _
          rw [← EN.out]
          rfl
        go_wp2_with fail
        refine Calls.mono (HB.out k [116] _ hk (by decide)) ?_
        rintro e w3 ⟨rfl, e3⟩
        subst e3
        cases hp : Lib.hasPrefix (l.drop k) [116] with
        | false =>
          have EF : Hid (rdX l = none) := by
            show _ = _
            have e9 := ENX.out
            unfold nstep at e9
            rw [hp] at e9
            unfold rdX
            rw [← e9]
            rfl
          go_wp2_with fail
          refine bodyPost_ret (results_ct (a := 2) (b := 3) (t := 25) rfl rfl (loadVar_tx (put8_at R.out.b2 _ _ _ _ _ _ _ _))) rfl ?_
          rw [EF.out]
          exact ⟨tz0, none, 0, rfl, fun t h => by (cases h), World.ownsRow_nil _ _ _ _, Same.trans R.out.kp (put8_same ..) (fun i hi e => by omega)⟩
        | true =>
          have hk2 := has_le hk hp
          have NA : Hid _ := nstep_at [116] 45 hk hp
          simp only [List.length_cons, List.length_nil, Nat.zero_add] at hk2 NA
          have wk : wrap64 ((k : Int) + 1) = ((k + 1 : Nat) : Int) := by unfold wrap64; omega
          obtain ⟨K, eK⟩ : ∃ K, K = k + 1 := ⟨_, rfl⟩
          rw [← eK] at hk2 NA wk
          have eKi : (k : Int) + 1 = (K : Int) := by omega
          have EK : Hid _ := eK
          clear eK
          go_wp2_with fail
          try rw [eKi]
          refine Calls.mono (HU.out K 45 _ hk2) ?_
          rintro e w4 ⟨rfl, e4⟩
          subst e4
          obtain ⟨E1, E2⟩ := upT_le l (k := K) 45 hk2
          generalize upT l K 45 = E at *
          have NB : Hid _ := NA
          clear NA
          by_cases hE : E = l.length
          · have EF : Hid (rdX l = none) := by
              show _ = _
              have e9 := ENX.out
              rw [NB.out, if_pos hE] at e9
              unfold rdX
              rw [← e9]
            have g1 : ((E : Int) == (l.length : Int)) = true := by rw [hE]; simp
            clear hE
            go_wp2_with fail
            refine bodyPost_ret (results_ct (a := 2) (b := 3) (t := 25) rfl rfl (loadVar_tx (put8_at R.out.b2 _ _ _ _ _ _ _ _))) rfl ?_
            rw [EF.out]
            exact ⟨tz0, none, 0, rfl, fun t h => by (cases h), World.ownsRow_nil _ _ _ _, Same.trans R.out.kp (put8_same ..) (fun i hi e => by omega)⟩
          · have g1 : ((E : Int) == (l.length : Int)) = false := beq_eq_false_iff_ne.2 (fun e => hE (by omega))
            have hs : ∀ w, _ := mid_tx l K E E1 E2
            have hE1 : E + 1 ≤ l.length := by omega
            have NC : Hid _ := NB.out.trans (if_neg hE)
            clear hE NB
            generalize (l.drop K).take (E - K) = PC at *
            go_wp2_with fail
            refine Calls.mono (HN.out PC _) ?_
            rintro e w5 ⟨rfl, e5⟩
            subst e5
            generalize numb PC = on at *
            cases on with
            | none =>
              have EF : Hid (rdX l = none) := by
                show _ = _
                have e9 := ENX.out
                rw [NC.out] at e9
                unfold rdX
                rw [← e9]
              simp only [rnV]
              go_wp2_with fail
              refine bodyPost_ret (results_ct (a := 2) (b := 3) (t := 25) rfl rfl (loadVar_tx (put8_at R.out.b2 _ _ _ _ _ _ _ _))) rfl ?_
              rw [EF.out]
              exact ⟨tz0, none, 0, rfl, fun t h => by (cases h), World.ownsRow_nil _ _ _ _, Same.trans R.out.kp (put8_same ..) (fun i hi e => by omega)⟩
            | some m =>
              simp only [rnV]
              have RS : Hid _ := R.out.set m (by have := HA.out; omega)
              rw [HA.out] at RS
              have EQ : Hid (numsX (hd6.drop 3) (acc ++ [m]) (l.drop (E + 1)) = numsX hd6 [] l) := by
                show _ = _
                rw [← ENX.out, NC.out]
              have wE : wrap64 ((E : Int) + 1) = (E : Int) + 1 := by unfold wrap64; omega
              go_wp2_with fail
              go_roundw
              case rel => exact ⟨E + 1, 3, acc ++ [m], by simp, by simp, by omega, by simp [HA.out], hE1, RS.out, EQ.out⟩
              case measure => simp only [intOf]; omega
      · -- 3
        have ENX : Hid ((match nstep [] 32 (l.drop k) with | none => none | some (n, r) => numsX (hd6.drop 4) (acc ++ [n]) r) = numsX hd6 [] l) := by
          show _ = _
          rw [← EN.out]
          rfl
        go_wp2_with fail
        refine Calls.mono (HB.out k [] _ hk (by decide)) ?_
        rintro e w3 ⟨rfl, e3⟩
        subst e3
        cases hp : Lib.hasPrefix (l.drop k) [] with
        | false =>
          have EF : Hid (rdX l = none) := by
            show _ = _
            have e9 := ENX.out
            unfold nstep at e9
            rw [hp] at e9
            unfold rdX
            rw [← e9]
            rfl
          go_wp2_with fail
          refine bodyPost_ret (results_ct (a := 2) (b := 3) (t := 25) rfl rfl (loadVar_tx (put8_at R.out.b2 _ _ _ _ _ _ _ _))) rfl ?_
          rw [EF.out]
          exact ⟨tz0, none, 0, rfl, fun t h => by (cases h), World.ownsRow_nil _ _ _ _, Same.trans R.out.kp (put8_same ..) (fun i hi e => by omega)⟩
        | true =>
          have hk2 := has_le hk hp
          have NA : Hid _ := nstep_at [] 32 hk hp
          simp only [List.length_nil, Nat.add_zero] at hk2 NA
          obtain ⟨K, eK⟩ : ∃ K, K = k := ⟨_, rfl⟩
          subst eK
          go_wp2_with fail
          refine Calls.mono (HU.out K 32 _ hk2) ?_
          rintro e w4 ⟨rfl, e4⟩
          subst e4
          obtain ⟨E1, E2⟩ := upT_le l (k := K) 32 hk2
          generalize upT l K 32 = E at *
          have NB : Hid _ := NA
          clear NA
          by_cases hE : E = l.length
          · have EF : Hid (rdX l = none) := by
              show _ = _
              have e9 := ENX.out
              rw [NB.out, if_pos hE] at e9
              unfold rdX
              rw [← e9]
            have g1 : ((E : Int) == (l.length : Int)) = true := by rw [hE]; simp
            clear hE
            go_wp2_with fail
            refine bodyPost_ret (results_ct (a := 2) (b := 3) (t := 25) rfl rfl (loadVar_tx (put8_at R.out.b2 _ _ _ _ _ _ _ _))) rfl ?_
            rw [EF.out]
            exact ⟨tz0, none, 0, rfl, fun t h => by (cases h), World.ownsRow_nil _ _ _ _, Same.trans R.out.kp (put8_same ..) (fun i hi e => by omega)⟩
          · have g1 : ((E : Int) == (l.length : Int)) = false := beq_eq_false_iff_ne.2 (fun e => hE (by omega))
            have hs : ∀ w, _ := mid_tx l K E E1 E2
            have hE1 : E + 1 ≤ l.length := by omega
            have NC : Hid _ := NB.out.trans (if_neg hE)
            clear hE NB
            generalize (l.drop K).take (E - K) = PC at *
            go_wp2_with fail
            refine Calls.mono (HN.out PC _) ?_
            rintro e w5 ⟨rfl, e5⟩
            subst e5
            generalize numb PC = on at *
            cases on with
            | none =>
              have EF : Hid (rdX l = none) := by
                show _ = _
                have e9 := ENX.out
                rw [NC.out] at e9
                unfold rdX
                rw [← e9]
              simp only [rnV]
              go_wp2_with fail
              refine bodyPost_ret (results_ct (a := 2) (b := 3) (t := 25) rfl rfl (loadVar_tx (put8_at R.out.b2 _ _ _ _ _ _ _ _))) rfl ?_
              rw [EF.out]
              exact ⟨tz0, none, 0, rfl, fun t h => by (cases h), World.ownsRow_nil _ _ _ _, Same.trans R.out.kp (put8_same ..) (fun i hi e => by omega)⟩
            | some m =>
              simp only [rnV]
              have RS : Hid _ := R.out.set m (by have := HA.out; omega)
              rw [HA.out] at RS
              have EQ : Hid (numsX (hd6.drop 4) (acc ++ [m]) (l.drop (E + 1)) = numsX hd6 [] l) := by
                show _ = _
                rw [← ENX.out, NC.out]
              have wE : wrap64 ((E : Int) + 1) = (E : Int) + 1 := by unfold wrap64; omega
              go_wp2_with fail
              go_roundw
              case rel => exact ⟨E + 1, 4, acc ++ [m], by simp, by simp, by omega, by simp [HA.out], hE1, RS.out, EQ.out⟩
              case measure => simp only [intOf]; omega
      · -- 4
        have ENX : Hid ((match nstep [99] 45 (l.drop k) with | none => none | some (n, r) => numsX (hd6.drop 5) (acc ++ [n]) r) = numsX hd6 [] l) := by
          show _ = _
          rw [← EN.out]
          rfl
        go_wp2_with fail
        refine Calls.mono (HB.out k [99] _ hk (by decide)) ?_
        rintro e w3 ⟨rfl, e3⟩
        subst e3
        cases hp : Lib.hasPrefix (l.drop k) [99] with
        | false =>
          have EF : Hid (rdX l = none) := by
            show _ = _
            have e9 := ENX.out
            unfold nstep at e9
            rw [hp] at e9
            unfold rdX
            rw [← e9]
            rfl
          go_wp2_with fail
          refine bodyPost_ret (results_ct (a := 2) (b := 3) (t := 25) rfl rfl (loadVar_tx (put8_at R.out.b2 _ _ _ _ _ _ _ _))) rfl ?_
          rw [EF.out]
          exact ⟨tz0, none, 0, rfl, fun t h => by (cases h), World.ownsRow_nil _ _ _ _, Same.trans R.out.kp (put8_same ..) (fun i hi e => by omega)⟩
        | true =>
          have hk2 := has_le hk hp
          have NA : Hid _ := nstep_at [99] 45 hk hp
          simp only [List.length_cons, List.length_nil, Nat.zero_add] at hk2 NA
          have wk : wrap64 ((k : Int) + 1) = ((k + 1 : Nat) : Int) := by unfold wrap64; omega
          obtain ⟨K, eK⟩ : ∃ K, K = k + 1 := ⟨_, rfl⟩
          rw [← eK] at hk2 NA wk
          have eKi : (k : Int) + 1 = (K : Int) := by omega
          have EK : Hid _ := eK
          clear eK
          go_wp2_with fail
          try rw [eKi]
          refine Calls.mono (HU.out K 45 _ hk2) ?_
          rintro e w4 ⟨rfl, e4⟩
          subst e4
          obtain ⟨E1, E2⟩ := upT_le l (k := K) 45 hk2
          generalize upT l K 45 = E at *
          have NB : Hid _ := NA
          clear NA
          by_cases hE : E = l.length
          · have EF : Hid (rdX l = none) := by
              show _ = _
              have e9 := ENX.out
              rw [NB.out, if_pos hE] at e9
              unfold rdX
              rw [← e9]
            have g1 : ((E : Int) == (l.length : Int)) = true := by rw [hE]; simp
            clear hE
            go_wp2_with fail
            refine bodyPost_ret (results_ct (a := 2) (b := 3) (t := 25) rfl rfl (loadVar_tx (put8_at R.out.b2 _ _ _ _ _ _ _ _))) rfl ?_
            rw [EF.out]
            exact ⟨tz0, none, 0, rfl, fun t h => by (cases h), World.ownsRow_nil _ _ _ _, Same.trans R.out.kp (put8_same ..) (fun i hi e => by omega)⟩
          · have g1 : ((E : Int) == (l.length : Int)) = false := beq_eq_false_iff_ne.2 (fun e => hE (by omega))
            have hs : ∀ w, _ := mid_tx l K E E1 E2
            have hE1 : E + 1 ≤ l.length := by omega
            have NC : Hid _ := NB.out.trans (if_neg hE)
            clear hE NB
            generalize (l.drop K).take (E - K) = PC at *
            go_wp2_with fail
            refine Calls.mono (HN.out PC _) ?_
            rintro e w5 ⟨rfl, e5⟩
            subst e5
            generalize numb PC = on at *
            cases on with
            | none =>
              have EF : Hid (rdX l = none) := by
                show _ = _
                have e9 := ENX.out
                rw [NC.out] at e9
                unfold rdX
                rw [← e9]
              simp only [rnV]
              go_wp2_with fail
              refine bodyPost_ret (results_ct (a := 2) (b := 3) (t := 25) rfl rfl (loadVar_tx (put8_at R.out.b2 _ _ _ _ _ _ _ _))) rfl ?_
              rw [EF.out]
              exact ⟨tz0, none, 0, rfl, fun t h => by (cases h), World.ownsRow_nil _ _ _ _, Same.trans R.out.kp (put8_same ..) (fun i hi e => by omega)⟩
            | some m =>
              simp only [rnV]
              have RS : Hid _ := R.out.set m (by have := HA.out; omega)
              rw [HA.out] at RS
              have EQ : Hid (numsX (hd6.drop 5) (acc ++ [m]) (l.drop (E + 1)) = numsX hd6 [] l) := by
                show _ = _
                rw [← ENX.out, NC.out]
              have wE : wrap64 ((E : Int) + 1) = (E : Int) + 1 := by unfold wrap64; omega
              go_wp2_with fail
              go_roundw
              case rel => exact ⟨E + 1, 5, acc ++ [m], by simp, by simp, by omega, by simp [HA.out], hE1, RS.out, EQ.out⟩
              case measure => simp only [intOf]; omega
      · -- 5
        have ENX : Hid ((match nstep [] 32 (l.drop k) with | none => none | some (n, r) => numsX (hd6.drop 6) (acc ++ [n]) r) = numsX hd6 [] l) := by
          show _ = _
          rw [← EN.out]
          rfl
        go_wp2_with fail
        refine Calls.mono (HB.out k [] _ hk (by decide)) ?_
        rintro e w3 ⟨rfl, e3⟩
        subst e3
        cases hp : Lib.hasPrefix (l.drop k) [] with
        | false =>
          have EF : Hid (rdX l = none) := by
            show _ = _
            have e9 := ENX.out
            unfold nstep at e9
            rw [hp] at e9
            unfold rdX
            rw [← e9]
            rfl
          go_wp2_with fail
          refine bodyPost_ret (results_ct (a := 2) (b := 3) (t := 25) rfl rfl (loadVar_tx (put8_at R.out.b2 _ _ _ _ _ _ _ _))) rfl ?_
          rw [EF.out]
          exact ⟨tz0, none, 0, rfl, fun t h => by (cases h), World.ownsRow_nil _ _ _ _, Same.trans R.out.kp (put8_same ..) (fun i hi e => by omega)⟩
        | true =>
          have hk2 := has_le hk hp
          have NA : Hid _ := nstep_at [] 32 hk hp
          simp only [List.length_nil, Nat.add_zero] at hk2 NA
          obtain ⟨K, eK⟩ : ∃ K, K = k := ⟨_, rfl⟩
          subst eK
          go_wp2_with fail
          refine Calls.mono (HU.out K 32 _ hk2) ?_
          rintro e w4 ⟨rfl, e4⟩
          subst e4
          obtain ⟨E1, E2⟩ := upT_le l (k := K) 32 hk2
          generalize upT l K 32 = E at *
          have NB : Hid _ := NA
          clear NA
          by_cases hE : E = l.length
          · have EF : Hid (rdX l = none) := by
              show _ = _
              have e9 := ENX.out
              rw [NB.out, if_pos hE] at e9
              unfold rdX
              rw [← e9]
            have g1 : ((E : Int) == (l.length : Int)) = true := by rw [hE]; simp
            clear hE
            go_wp2_with fail
            refine bodyPost_ret (results_ct (a := 2) (b := 3) (t := 25) rfl rfl (loadVar_tx (put8_at R.out.b2 _ _ _ _ _ _ _ _))) rfl ?_
            rw [EF.out]
            exact ⟨tz0, none, 0, rfl, fun t h => by (cases h), World.ownsRow_nil _ _ _ _, Same.trans R.out.kp (put8_same ..) (fun i hi e => by omega)⟩
          · have g1 : ((E : Int) == (l.length : Int)) = false := beq_eq_false_iff_ne.2 (fun e => hE (by omega))
            have hs : ∀ w, _ := mid_tx l K E E1 E2
            have hE1 : E + 1 ≤ l.length := by omega
            have NC : Hid _ := NB.out.trans (if_neg hE)
            clear hE NB
            generalize (l.drop K).take (E - K) = PC at *
            go_wp2_with fail
            refine Calls.mono (HN.out PC _) ?_
            rintro e w5 ⟨rfl, e5⟩
            subst e5
            generalize numb PC = on at *
            cases on with
            | none =>
              have EF : Hid (rdX l = none) := by
                show _ = _
                have e9 := ENX.out
                rw [NC.out] at e9
                unfold rdX
                rw [← e9]
              simp only [rnV]
              go_wp2_with fail
              refine bodyPost_ret (results_ct (a := 2) (b := 3) (t := 25) rfl rfl (loadVar_tx (put8_at R.out.b2 _ _ _ _ _ _ _ _))) rfl ?_
              rw [EF.out]
              exact ⟨tz0, none, 0, rfl, fun t h => by (cases h), World.ownsRow_nil _ _ _ _, Same.trans R.out.kp (put8_same ..) (fun i hi e => by omega)⟩
            | some m =>
              simp only [rnV]
              have RS : Hid _ := R.out.set m (by have := HA.out; omega)
              rw [HA.out] at RS
              have EQ : Hid (numsX (hd6.drop 6) (acc ++ [m]) (l.drop (E + 1)) = numsX hd6 [] l) := by
                show _ = _
                rw [← ENX.out, NC.out]
              have wE : wrap64 ((E : Int) + 1) = (E : Int) + 1 := by unfold wrap64; omega
              go_wp2_with fail
              go_roundw
              case rel => exact ⟨E + 1, 6, acc ++ [m], by simp, by simp, by omega, by simp [HA.out], hE1, RS.out, EQ.out⟩
              case measure => simp only [intOf]; omega
    · -- the end
      obtain rfl : i = 6 := by omega
      obtain ⟨n0, n1, n2, n3, n4, n5, rfl⟩ := six_list HA.out
      have EX0 : Hid (rdX l = rdN [n0, n1, n2, n3, n4, n5] (tailX (l.drop k))) := rdX_nums EN.out.symm
      clear EN HA h6 hi
      obtain ⟨W2, e2⟩ : ∃ W2, W2 = put8 wr (w.heap.size + 1) (.int .i64 (n0 : Int)) (.int .i64 (n1 : Int)) (.int .i64 (n2 : Int)) (.int .i64 (n3 : Int)) (.int .i64 (n4 : Int)) (.int .i64 (n5 : Int)) (.int .i64 0) (.slice none 0 0) := ⟨_, rfl⟩
      have Y2 : Hid (Ry w W2 #[.int .i64 (n0 : Int), .int .i64 (n1 : Int), .int .i64 (n2 : Int), .int .i64 (n3 : Int), .int .i64 (n4 : Int), .int .i64 (n5 : Int), .int .i64 0, .slice none 0 0] (.slice none 0 0) []) := by rw [e2]; exact Ry.start R.out ..
      unfold put8 at e2
      simp only [List.getD_cons_zero, List.getD_cons_succ] at s0 s1 s2 s3 s4 s5
      have R4 : Hid _ := R.out.b4
      unfold txz at R4
      obtain ⟨-, r0, r1, r2, r3, r4, r5, r6, r7⟩ := tx_obj R4.out
      go_upto_region 20 with fail
      rw [← e2]
      clear e2 R R4 r0 r1 r2 r3 r4 r5 r6 r7 x0 x1 x2 x3 x4 x5 y0 y1 y2 y3 y4 y5 s0 s1 s2 s3 s4 s5 z0 z1 z2 z3 z4 z5 p0 p1 p2 p3 p4 p5 p6 p7 t0 t1 t2 t3 t4 t5 t6 t7 q0 q1 q2 q3 q4 q5 q6 q7 l6 l7 l5 l4 l2 lo HB HN
      go_wp2_with fail
      refine Calls.mono (HU.out k 32 _ hk) ?_
      rintro e w4 ⟨rfl, e4⟩
      subst e4
      obtain ⟨E1, E2⟩ := upT_le l (k := k) 32 hk
      have RS : Hid (Rest (l.drop (upT l k 32))) := upT_rest l k
      have hs : ∀ w, _ := mid_tx l k (upT l k 32) E1 E2
      have T9 : Hid _ := tailX_at (l := l) (k := k)
      generalize upT l k 32 = E at *
      generalize (l.drop k).take (E - k) = PC at *
      obtain ⟨OX, eOX⟩ : ∃ OX, OX = opsX (l.length - k) (l.drop E) := ⟨_, rfl⟩
      rw [← eOX] at T9
      have HOX : Hid (opsX (l.length - k) (l.drop E) = OX) := eOX.symm
      clear eOX
      obtain ⟨⟨x0, x1, x2, x3, x4, x5, x6, x7⟩, g0, g1, g2, g3, g4, g5, g6, g7⟩ := tx_obj Y2.out.bt
      have l4 := lt_of_heap Y2.out.bt
      by_cases hc : PC = wCommit
      · have EX : Hid (rdX l = rdN [n0, n1, n2, n3, n4, n5] (tailS 1 OX)) := by
          show _ = _
          rw [EX0.out, T9.out, if_pos hc]
        have q1 : (PC == [99, 111, 109, 109, 105, 116]) = true := beq_iff_eq.2 hc
        obtain ⟨W3, e3⟩ : ∃ W3, W3 = w4.setCell ⟨w.heap.size + 1, 6, none⟩ (.int .i64 1) := ⟨_, rfl⟩
        have Y3 : Hid (Ry w W3 #[.int .i64 (n0 : Int), .int .i64 (n1 : Int), .int .i64 (n2 : Int), .int .i64 (n3 : Int), .int .i64 (n4 : Int), .int .i64 (n5 : Int), .int .i64 1, .slice none 0 0] (.slice none 0 0) []) := by rw [e3]; exact Y2.out.set 6 (.int .i64 1)
        clear hc EX0 T9
        go_wp2_with fail
        rw [← e3]
        clear e3 Y2 q1 hs g0 g1 g2 g3 g4 g5 g6 g7 x0 x1 x2 x3 x4 x5 x6 x7 l4
        go_loopw [13] (fun v13 wr => ∃ (E m : Nat) (acc : List OpM) (a : Option Addr) (c : Nat), v13 = .int .i64 (E : Int) ∧ E ≤ l.length ∧ acc.length ≤ E ∧ l.length - E ≤ m ∧ Rest (l.drop E) ∧ Ry w wr #[.int .i64 (n0 : Int), .int .i64 (n1 : Int), .int .i64 (n2 : Int), .int .i64 (n3 : Int), .int .i64 (n4 : Int), .int .i64 (n5 : Int), .int .i64 1, .slice a acc.length c] (.slice a acc.length c) acc ∧ opsA m (l.drop E) acc = OX) (fun v13 _ => l.length - (intOf v13).toNat)
        case atStart => exact ⟨E, l.length - k, [], none, 0, rfl, E2, Nat.zero_le _, by omega, RS.out, Y3.out, (opsA_nil _ _).trans HOX.out⟩
        case round =>
          clear HOX RS Y3 E1 E2 hk
          obtain ⟨E, m, acc, a, c, rfl, hE, hac, hm, hr, hy, ho⟩ := hrel
          rename World => V
          have Y : Hid (Ry w V #[.int .i64 (n0 : Int), .int .i64 (n1 : Int), .int .i64 (n2 : Int), .int .i64 (n3 : Int), .int .i64 (n4 : Int), .int .i64 (n5 : Int), .int .i64 1, .slice a acc.length c] (.slice a acc.length c) acc) := hy
          have HO : Hid _ := ho
          have HR : Hid _ := hr
          clear hy ho hr
          by_cases hlt : E < l.length
          · obtain ⟨m', rfl⟩ : ∃ m', m = m' + 1 := ⟨m - 1, by omega⟩
            have HA : Hid (∀ o, opX ((l.drop (E + 1)).take (upT l (E + 1) 32 - (E + 1))) = some o → opsA m' (l.drop (upT l (E + 1) 32)) (acc ++ [o]) = OX) := fun o h => (opsA_some HR.out hlt h).symm.trans HO.out
            have HZ : Hid (opX ((l.drop (E + 1)).take (upT l (E + 1) 32 - (E + 1))) = none → OX = none) := fun h => HO.out.symm.trans (opsA_none HR.out hlt h)
            have hlt2 : (E : Int) < (l.length : Int) := by omega
            have wk : wrap64 ((E : Int) + 1) = ((E + 1 : Nat) : Int) := by unfold wrap64; omega
            obtain ⟨K, eK⟩ : ∃ K, K = E + 1 := ⟨_, rfl⟩
            have hK : K ≤ l.length := by omega
            rw [← eK] at wk HA HZ
            have eKi : (E : Int) + 1 = (K : Int) := by omega
            have HM : Hid (l.length - E ≤ m' + 1 ∧ acc.length ≤ E ∧ K = E + 1) := ⟨hm, hac, eK⟩
            clear eK hm hac HO HR hE
            obtain ⟨c0, c1, c2⟩ := Y.out.facts
            go_wp2_with fail
            try rw [eKi]
            refine Calls.mono (HU.out K 32 _ hK) ?_
            rintro e w4 ⟨rfl, e4⟩
            subst e4
            obtain ⟨E1, E2⟩ := upT_le l (k := K) 32 hK
            have RS : Hid (Rest (l.drop (upT l K 32))) := upT_rest l K
            have hs : ∀ w, _ := mid_tx l K (upT l K 32) E1 E2
            have hPC : ((l.drop K).take (upT l K 32 - K)).length ≤ 140737488351232 := by rw [List.length_take, List.length_drop]; omega
            generalize upT l K 32 = F at *
            generalize (l.drop K).take (F - K) = PC at *
            go_wp2_with fail
            refine Calls.mono (HP.out PC _ hPC) ?_
            rintro e w5 ⟨o', rfl, ho', k5⟩
            have HOO : Hid _ := ho'
            have Y6 : Hid _ := (Y.out.on k5).on ((Same.refl _ w5).alloc (opO (.int .i64 o'.kind) (.string o'.key) (.bool o'.found) (.string o'.value)))
            have OB : Hid _ := heap_new w5 (opO (.int .i64 o'.kind) (.string o'.key) (.bool o'.found) (.string o'.value))
            clear k5 ho' Y c0 c1 c2
            unfold opO at Y6 OB
            simp only [opV]
            obtain ⟨⟨x0, x1, x2, x3, x4, x5, x6, x7⟩, g0, g1, g2, g3, g4, g5, g6, g7⟩ := tx_obj Y6.out.bt
            obtain ⟨⟨q0, q1, q2, q3, q4, q5, q6, q7⟩, v0, v1, v2, v3, v4, v5, v6, v7⟩ := tx_obj Y6.out.bq
            obtain ⟨⟨d0, d1, d2, d3⟩, f0, f1, f2, f3⟩ := op_obj OB.out
            have l2 := lt_of_heap Y6.out.bq
            have l4 := lt_of_heap Y6.out.bt
            have l5 := lt_of_heap OB.out
            cases hx : opX PC with
            | none =>
              have EF : Hid (rdX l = none) := by
                show _ = _
                rw [EX.out, HZ.out hx]
                rfl
              have DN : Hid _ := Y6.out.done (n0 := n0) (n1 := n1) (n2 := n2) (n3 := n3) (n4 := n4) (n5 := n5) (st := 1)
              clear hx HA HZ HOO
              go_wp2_with fail
              refine bodyPost_ret (results_ct (a := 2) (b := 3) (t := 25) rfl rfl DN.out.1) rfl ?_
              rw [EF.out]
              exact ⟨⟨n0, n1, n2, n3, n4, n5, 1, acc⟩, a, c, rfl, fun t h => by (cases h), DN.out.2⟩
            | some o =>
              obtain rfl : o' = o := HOO.out o hx
              have HA2 : Hid _ := HA.out o' hx
              clear hx HA HZ HOO v0 v1 v2 v3 v4 v5 v6 v7 q0 q1 q2 q3 q4 q5 q6 q7
              have HAP : Hid (∀ g, g = (w5.alloc (.cells #[.int .i64 o'.kind, .string o'.key, .bool o'.found, .string o'.value] 49 (0, 0))).heap.size → ∀ ty, ∃ v' w', (Builtin.append_ #[23, 23] ty #[.slice a acc.length c, .slice (some ⟨g, 0, none⟩) 1 1]).run Tryd.prog ((w5.alloc (.cells #[.int .i64 o'.kind, .string o'.key, .bool o'.found, .string o'.value] 49 (0, 0))).alloc (.cells #[.int .i64 o'.kind, .string o'.key, .bool o'.found, .string o'.value] 49)) = .ok v' w' ∧ ∃ a' c', v' = .slice a' (acc ++ [o']).length c' ∧ Ry w w' #[.int .i64 (n0 : Int), .int .i64 (n1 : Int), .int .i64 (n2 : Int), .int .i64 (n3 : Int), .int .i64 (n4 : Int), .int .i64 (n5 : Int), .int .i64 1, .slice a acc.length c] v' (acc ++ [o'])) := fun g hg ty => by
                obtain ⟨v', w', hr, ho1, hs1⟩ := app_op_many o' Y6.out.own (by have := HM.out.2.1; omega) Y6.out.size ty
                rw [hg]
                obtain ⟨a', c', e', -⟩ := OwnO.ops ho1
                exact ⟨v', w', hr, a', c', e', Y6.out.grow ho1 hs1⟩
              go_wp2_with (at_builtin; refine wpList_app rfl (.tmp 114) (.tmp 116) 23 23 rfl (.slice a acc.length c) (.slice (some ⟨_, 0, none⟩) 1 1) rfl rfl _ (HAP.out _ (by first | rfl | simp)) ?_; rintro v5 w6 ⟨a5, c5, rfl, t5⟩; obtain ⟨z0, z1, z2⟩ := t5.facts; have z7 := z1 7; have g7 := z2 7; have T5 : Hid _ := t5.set 7 (.slice a5 (acc ++ [o']).length c5); clear z1 z2 t5)
              have T6 : Hid (Ry w (w6.setCell ⟨w.heap.size + 1, 7, none⟩ (.slice a5 (acc.length + 1) c5)) #[.int .i64 (n0 : Int), .int .i64 (n1 : Int), .int .i64 (n2 : Int), .int .i64 (n3 : Int), .int .i64 (n4 : Int), .int .i64 (n5 : Int), .int .i64 1, .slice a5 (acc ++ [o']).length c5] (.slice a5 (acc ++ [o']).length c5) (acc ++ [o'])) := by
                have h9 := T5.out
                have e9 : (acc ++ [o']).length = acc.length + 1 := by simp
                rw [e9] at h9 ⊢
                exact h9
              have hm := HM.out
              refine ⟨⟨F, m', acc ++ [o'], a5, c5, rfl, E2, by rw [List.length_append]; simp only [List.length_cons, List.length_nil]; omega, by omega, RS.out, T6.out, HA2.out⟩, ?_⟩
              simp only [intOf, Int.toNat_natCast]
              omega
          · have hlt2 : ¬ (E : Int) < (l.length : Int) := by omega
            have EF : Hid (rdX l = some (mkT [n0, n1, n2, n3, n4, n5] 1 acc)) := by
              show _ = _
              rw [EX.out, ← HO.out, opsA_end hlt]
              rfl
            have DN : Hid _ := Y.out.done (n0 := n0) (n1 := n1) (n2 := n2) (n3 := n3) (n4 := n4) (n5 := n5) (st := 1)
            obtain ⟨⟨x0, x1, x2, x3, x4, x5, x6, x7⟩, g0, g1, g2, g3, g4, g5, g6, g7⟩ := tx_obj Y.out.bt
            obtain ⟨⟨q0, q1, q2, q3, q4, q5, q6, q7⟩, v0, v1, v2, v3, v4, v5, v6, v7⟩ := tx_obj Y.out.bq
            have l2 := lt_of_heap Y.out.bq
            have l4 := lt_of_heap Y.out.bt
            clear hlt HO HR Y hE hac hm
            go_wp2_with fail
            refine bodyPost_ret (results_ct (a := 2) (b := 3) (t := 25) rfl rfl DN.out.1) rfl ?_
            rw [EF.out]
            exact ⟨mkT [n0, n1, n2, n3, n4, n5] 1 acc, a, c, rfl, fun t h => by (cases h; rfl), DN.out.2⟩
      · have nc : (PC == [99, 111, 109, 109, 105, 116]) = false := beq_eq_false_iff_ne.2 hc
        by_cases hc2 : PC = wAbort
        · have EX : Hid (rdX l = rdN [n0, n1, n2, n3, n4, n5] (tailS 0 OX)) := by
            show _ = _
            rw [EX0.out, T9.out, if_neg hc, if_pos hc2]
          have q1 : (PC == [97, 98, 111, 114, 116]) = true := beq_iff_eq.2 hc2
          have Y3 : Hid (Ry w w4 #[.int .i64 (n0 : Int), .int .i64 (n1 : Int), .int .i64 (n2 : Int), .int .i64 (n3 : Int), .int .i64 (n4 : Int), .int .i64 (n5 : Int), .int .i64 0, .slice none 0 0] (.slice none 0 0) []) := Y2.out
          clear hc hc2 EX0 T9
          go_wp2_with fail
          clear Y2 q1 hs g0 g1 g2 g3 g4 g5 g6 g7 x0 x1 x2 x3 x4 x5 x6 x7 l4
          go_loopw [13] (fun v13 wr => ∃ (E m : Nat) (acc : List OpM) (a : Option Addr) (c : Nat), v13 = .int .i64 (E : Int) ∧ E ≤ l.length ∧ acc.length ≤ E ∧ l.length - E ≤ m ∧ Rest (l.drop E) ∧ Ry w wr #[.int .i64 (n0 : Int), .int .i64 (n1 : Int), .int .i64 (n2 : Int), .int .i64 (n3 : Int), .int .i64 (n4 : Int), .int .i64 (n5 : Int), .int .i64 0, .slice a acc.length c] (.slice a acc.length c) acc ∧ opsA m (l.drop E) acc = OX) (fun v13 _ => l.length - (intOf v13).toNat)
          case atStart => exact ⟨E, l.length - k, [], none, 0, rfl, E2, Nat.zero_le _, by omega, RS.out, Y3.out, (opsA_nil _ _).trans HOX.out⟩
          case round =>
            clear HOX RS Y3 E1 E2 hk
            obtain ⟨E, m, acc, a, c, rfl, hE, hac, hm, hr, hy, ho⟩ := hrel
            rename World => V
            have Y : Hid (Ry w V #[.int .i64 (n0 : Int), .int .i64 (n1 : Int), .int .i64 (n2 : Int), .int .i64 (n3 : Int), .int .i64 (n4 : Int), .int .i64 (n5 : Int), .int .i64 0, .slice a acc.length c] (.slice a acc.length c) acc) := hy
            have HO : Hid _ := ho
            have HR : Hid _ := hr
            clear hy ho hr
            by_cases hlt : E < l.length
            · obtain ⟨m', rfl⟩ : ∃ m', m = m' + 1 := ⟨m - 1, by omega⟩
              have HA : Hid (∀ o, opX ((l.drop (E + 1)).take (upT l (E + 1) 32 - (E + 1))) = some o → opsA m' (l.drop (upT l (E + 1) 32)) (acc ++ [o]) = OX) := fun o h => (opsA_some HR.out hlt h).symm.trans HO.out
              have HZ : Hid (opX ((l.drop (E + 1)).take (upT l (E + 1) 32 - (E + 1))) = none → OX = none) := fun h => HO.out.symm.trans (opsA_none HR.out hlt h)
              have hlt2 : (E : Int) < (l.length : Int) := by omega
              have wk : wrap64 ((E : Int) + 1) = ((E + 1 : Nat) : Int) := by unfold wrap64; omega
              obtain ⟨K, eK⟩ : ∃ K, K = E + 1 := ⟨_, rfl⟩
              have hK : K ≤ l.length := by omega
              rw [← eK] at wk HA HZ
              have eKi : (E : Int) + 1 = (K : Int) := by omega
              have HM : Hid (l.length - E ≤ m' + 1 ∧ acc.length ≤ E ∧ K = E + 1) := ⟨hm, hac, eK⟩
              clear eK hm hac HO HR hE
              obtain ⟨c0, c1, c2⟩ := Y.out.facts
              go_wp2_with fail
              try rw [eKi]
              refine Calls.mono (HU.out K 32 _ hK) ?_
              rintro e w4 ⟨rfl, e4⟩
              subst e4
              obtain ⟨E1, E2⟩ := upT_le l (k := K) 32 hK
              have RS : Hid (Rest (l.drop (upT l K 32))) := upT_rest l K
              have hs : ∀ w, _ := mid_tx l K (upT l K 32) E1 E2
              have hPC : ((l.drop K).take (upT l K 32 - K)).length ≤ 140737488351232 := by rw [List.length_take, List.length_drop]; omega
              generalize upT l K 32 = F at *
              generalize (l.drop K).take (F - K) = PC at *
              go_wp2_with fail
              refine Calls.mono (HP.out PC _ hPC) ?_
              rintro e w5 ⟨o', rfl, ho', k5⟩
              have HOO : Hid _ := ho'
              have Y6 : Hid _ := (Y.out.on k5).on ((Same.refl _ w5).alloc (opO (.int .i64 o'.kind) (.string o'.key) (.bool o'.found) (.string o'.value)))
              have OB : Hid _ := heap_new w5 (opO (.int .i64 o'.kind) (.string o'.key) (.bool o'.found) (.string o'.value))
              clear k5 ho' Y c0 c1 c2
              unfold opO at Y6 OB
              simp only [opV]
              obtain ⟨⟨x0, x1, x2, x3, x4, x5, x6, x7⟩, g0, g1, g2, g3, g4, g5, g6, g7⟩ := tx_obj Y6.out.bt
              obtain ⟨⟨q0, q1, q2, q3, q4, q5, q6, q7⟩, v0, v1, v2, v3, v4, v5, v6, v7⟩ := tx_obj Y6.out.bq
              obtain ⟨⟨d0, d1, d2, d3⟩, f0, f1, f2, f3⟩ := op_obj OB.out
              have l2 := lt_of_heap Y6.out.bq
              have l4 := lt_of_heap Y6.out.bt
              have l5 := lt_of_heap OB.out
              cases hx : opX PC with
              | none =>
                have EF : Hid (rdX l = none) := by
                  show _ = _
                  rw [EX.out, HZ.out hx]
                  rfl
                have DN : Hid _ := Y6.out.done (n0 := n0) (n1 := n1) (n2 := n2) (n3 := n3) (n4 := n4) (n5 := n5) (st := 0)
                clear hx HA HZ HOO
                go_wp2_with fail
                refine bodyPost_ret (results_ct (a := 2) (b := 3) (t := 25) rfl rfl DN.out.1) rfl ?_
                rw [EF.out]
                exact ⟨⟨n0, n1, n2, n3, n4, n5, 0, acc⟩, a, c, rfl, fun t h => by (cases h), DN.out.2⟩
              | some o =>
                obtain rfl : o' = o := HOO.out o hx
                have HA2 : Hid _ := HA.out o' hx
                clear hx HA HZ HOO v0 v1 v2 v3 v4 v5 v6 v7 q0 q1 q2 q3 q4 q5 q6 q7
                have HAP : Hid (∀ g, g = (w5.alloc (.cells #[.int .i64 o'.kind, .string o'.key, .bool o'.found, .string o'.value] 49 (0, 0))).heap.size → ∀ ty, ∃ v' w', (Builtin.append_ #[23, 23] ty #[.slice a acc.length c, .slice (some ⟨g, 0, none⟩) 1 1]).run Tryd.prog ((w5.alloc (.cells #[.int .i64 o'.kind, .string o'.key, .bool o'.found, .string o'.value] 49 (0, 0))).alloc (.cells #[.int .i64 o'.kind, .string o'.key, .bool o'.found, .string o'.value] 49)) = .ok v' w' ∧ ∃ a' c', v' = .slice a' (acc ++ [o']).length c' ∧ Ry w w' #[.int .i64 (n0 : Int), .int .i64 (n1 : Int), .int .i64 (n2 : Int), .int .i64 (n3 : Int), .int .i64 (n4 : Int), .int .i64 (n5 : Int), .int .i64 0, .slice a acc.length c] v' (acc ++ [o'])) := fun g hg ty => by
                  obtain ⟨v', w', hr, ho1, hs1⟩ := app_op_many o' Y6.out.own (by have := HM.out.2.1; omega) Y6.out.size ty
                  rw [hg]
                  obtain ⟨a', c', e', -⟩ := OwnO.ops ho1
                  exact ⟨v', w', hr, a', c', e', Y6.out.grow ho1 hs1⟩
                go_wp2_with (at_builtin; refine wpList_app rfl (.tmp 114) (.tmp 116) 23 23 rfl (.slice a acc.length c) (.slice (some ⟨_, 0, none⟩) 1 1) rfl rfl _ (HAP.out _ (by first | rfl | simp)) ?_; rintro v5 w6 ⟨a5, c5, rfl, t5⟩; obtain ⟨z0, z1, z2⟩ := t5.facts; have z7 := z1 7; have g7 := z2 7; have T5 : Hid _ := t5.set 7 (.slice a5 (acc ++ [o']).length c5); clear z1 z2 t5)
                have T6 : Hid (Ry w (w6.setCell ⟨w.heap.size + 1, 7, none⟩ (.slice a5 (acc.length + 1) c5)) #[.int .i64 (n0 : Int), .int .i64 (n1 : Int), .int .i64 (n2 : Int), .int .i64 (n3 : Int), .int .i64 (n4 : Int), .int .i64 (n5 : Int), .int .i64 0, .slice a5 (acc ++ [o']).length c5] (.slice a5 (acc ++ [o']).length c5) (acc ++ [o'])) := by
                  have h9 := T5.out
                  have e9 : (acc ++ [o']).length = acc.length + 1 := by simp
                  rw [e9] at h9 ⊢
                  exact h9
                have hm := HM.out
                refine ⟨⟨F, m', acc ++ [o'], a5, c5, rfl, E2, by rw [List.length_append]; simp only [List.length_cons, List.length_nil]; omega, by omega, RS.out, T6.out, HA2.out⟩, ?_⟩
                simp only [intOf, Int.toNat_natCast]
                omega
            · have hlt2 : ¬ (E : Int) < (l.length : Int) := by omega
              have EF : Hid (rdX l = some (mkT [n0, n1, n2, n3, n4, n5] 0 acc)) := by
                show _ = _
                rw [EX.out, ← HO.out, opsA_end hlt]
                rfl
              have DN : Hid _ := Y.out.done (n0 := n0) (n1 := n1) (n2 := n2) (n3 := n3) (n4 := n4) (n5 := n5) (st := 0)
              obtain ⟨⟨x0, x1, x2, x3, x4, x5, x6, x7⟩, g0, g1, g2, g3, g4, g5, g6, g7⟩ := tx_obj Y.out.bt
              obtain ⟨⟨q0, q1, q2, q3, q4, q5, q6, q7⟩, v0, v1, v2, v3, v4, v5, v6, v7⟩ := tx_obj Y.out.bq
              have l2 := lt_of_heap Y.out.bq
              have l4 := lt_of_heap Y.out.bt
              clear hlt HO HR Y hE hac hm
              go_wp2_with fail
              refine bodyPost_ret (results_ct (a := 2) (b := 3) (t := 25) rfl rfl DN.out.1) rfl ?_
              rw [EF.out]
              exact ⟨mkT [n0, n1, n2, n3, n4, n5] 0 acc, a, c, rfl, fun t h => by (cases h; rfl), DN.out.2⟩
        · have nc2 : (PC == [97, 98, 111, 114, 116]) = false := beq_eq_false_iff_ne.2 hc2
          have EF : Hid (rdX l = none) := by
            show _ = _
            rw [EX0.out, T9.out, if_neg hc, if_neg hc2]
            rfl
          have DN : Hid _ := Y2.out.done (n0 := n0) (n1 := n1) (n2 := n2) (n3 := n3) (n4 := n4) (n5 := n5) (st := 0)
          obtain ⟨⟨q0, q1, q2, q3, q4, q5, q6, q7⟩, v0, v1, v2, v3, v4, v5, v6, v7⟩ := tx_obj Y2.out.bq
          have l2 := lt_of_heap Y2.out.bq
          clear hc hc2 EX0 T9 Y2
          go_wp2_with fail
          refine bodyPost_ret (results_ct (a := 2) (b := 3) (t := 25) rfl rfl DN.out.1) rfl ?_
          rw [EF.out]
          exact ⟨⟨n0, n1, n2, n3, n4, n5, 0, []⟩, none, 0, rfl, fun t h => by (cases h), DN.out.2⟩
end Go.Proofs.YtlldgibpajbabaaDoor
