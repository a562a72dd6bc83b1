/- What is proved: the document's Valid of a transaction that lies in memory; no condition. -/
import Derived.Test.YtlldgibpajbabaaDoorRVal
namespace Go.Proofs.YtlldgibpajbabaaDoor
open Go.RowKit

set_option maxRecDepth 100000 in
theorem bad_any (n most : Int) (w : World) : Calls Tryd.prog 40 #[.int .i64 n, .int .i64 most] w fun e w' => e = .returned (.bool (!decide (inB n most))) ∧ w' = w := by
  unfold inB
  by_cases h : n < 0
  · have h' : decide (n < 0) = true := decide_eq_true h
    have h2 : decide (0 ≤ n ∧ n ≤ most) = false := decide_eq_false (by omega)
    rw [h2]
    clear h h2
    go_enter Tryd.func40, Tryd.ntmps40
    go_wp2_with fail
    go_ret
    exact ⟨rfl, rfl⟩
  · have h' : decide (n < 0) = false := decide_eq_false h
    have h2 : (!decide (0 ≤ n ∧ n ≤ most)) = decide (most < n) := by
      rw [Bool.eq_iff_iff]
      simp only [Bool.not_eq_true', decide_eq_false_iff_not, decide_eq_true_eq]
      omega
    rw [h2]
    clear h h2
    go_enter Tryd.func40, Tryd.ntmps40
    go_wp2_with fail
    go_ret
    exact ⟨rfl, rfl⟩
set_option maxRecDepth 100000 in
set_option maxHeartbeats 6400000 in
theorem rightOp_any (o : OpM) (w : World) : Calls Tryd.prog 41 #[opV o] w fun e w' => e = .returned (.bool (decide (rightO o))) ∧ Kept w w' := by
  have hnot : ∀ (x : Bool) (w : World), (Op.unary .not (.bool x)).run Tryd.prog w = .ok (.bool (!x)) w := fun _ _ => rfl
  obtain ⟨B, eB⟩ : ∃ B : Bool, B = decide (rightO o) := ⟨_, rfl⟩
  rw [← eB]
  obtain ⟨kind, key, found, value⟩ := o
  unfold rightO at eB
  unfold opV
  simp only at eB ⊢
  by_cases h1 : key.size = 0
  · have d1 : ((key.size : Int) == 0) = true := by simp [h1]
    obtain rfl : B = false := by rw [eB]; simp [h1]
    clear eB
    go_enter Tryd.func41, Tryd.ntmps41
    go_wp2_with fail
    go_ret
    exact ⟨rfl, (Same.refl _ w).alloc _⟩
  have d1 : ((key.size : Int) == 0) = false := by rw [beq_eq_false_iff_ne]; omega
  by_cases h2 : 8 < key.size
  · have d2 : decide ((8 : Int) < (key.size : Int)) = true := decide_eq_true (by omega)
    have d2' : (8 : Int) < (key.size : Int) := by omega
    obtain rfl : B = false := by rw [eB]; simp [h2]
    clear eB
    go_enter Tryd.func41, Tryd.ntmps41
    go_wp2_with fail
    go_ret
    exact ⟨rfl, (Same.refl _ w).alloc _⟩
  have d2 : decide ((8 : Int) < (key.size : Int)) = false := decide_eq_false (by omega)
  have d2' : ¬ (8 : Int) < (key.size : Int) := by omega
  by_cases h3 : 16 < value.size
  · have d3 : decide ((16 : Int) < (value.size : Int)) = true := decide_eq_true (by omega)
    have d3' : (16 : Int) < (value.size : Int) := by omega
    obtain rfl : B = false := by rw [eB]; simp [h3]
    clear eB
    go_enter Tryd.func41, Tryd.ntmps41
    go_wp2_with fail
    go_ret
    exact ⟨rfl, (Same.refl _ w).alloc _⟩
  have d3 : decide ((16 : Int) < (value.size : Int)) = false := decide_eq_false (by omega)
  have d3' : ¬ (16 : Int) < (value.size : Int) := by omega
  by_cases k1 : kind = 1
  · subst k1
    cases found with
    | true =>
      obtain rfl : B = true := by rw [eB]; simp [h1, h2, h3]
      clear eB
      go_enter Tryd.func41, Tryd.ntmps41
      go_wp2_with fail
      go_ret
      exact ⟨rfl, (Same.refl _ w).alloc _⟩
    | false =>
      by_cases h4 : value.size = 0
      · have d4 : ((value.size : Int) == 0) = true := by simp [h4]
        obtain rfl : B = true := by rw [eB]; simp [h1, h2, h4]
        clear eB
        go_enter Tryd.func41, Tryd.ntmps41
        go_wp2_with fail
        go_ret
        exact ⟨rfl, (Same.refl _ w).alloc _⟩
      · have d4 : ((value.size : Int) == 0) = false := by rw [beq_eq_false_iff_ne]; omega
        obtain rfl : B = false := by rw [eB]; simp [h4]
        clear eB
        go_enter Tryd.func41, Tryd.ntmps41
        go_wp2_with fail
        go_ret
        exact ⟨rfl, (Same.refl _ w).alloc _⟩
  have t1 : (kind == 1) = false := by simpa using k1
  by_cases k2 : kind = 2
  · subst k2
    cases found with
    | false =>
      obtain rfl : B = false := by rw [eB]; simp []
      clear eB
      go_enter Tryd.func41, Tryd.ntmps41
      go_wp2_with fail
      go_ret
      exact ⟨rfl, (Same.refl _ w).alloc _⟩
    | true =>
      obtain rfl : B = true := by rw [eB]; simp [h1, h2, h3]
      clear eB
      go_enter Tryd.func41, Tryd.ntmps41
      go_wp2_with fail
      go_ret
      exact ⟨rfl, (Same.refl _ w).alloc _⟩
  have t2 : (kind == 2) = false := by simpa using k2
  by_cases k3 : kind = 3
  · subst k3
    cases found with
    | true =>
      obtain rfl : B = false := by rw [eB]; simp []
      clear eB
      go_enter Tryd.func41, Tryd.ntmps41
      go_wp2_with fail
      go_ret
      exact ⟨rfl, (Same.refl _ w).alloc _⟩
    | false =>
      by_cases h4 : value.size = 0
      · have d4 : ((value.size : Int) == 0) = true := by simp [h4]
        obtain rfl : B = true := by rw [eB]; simp [h1, h2, h4]
        clear eB
        go_enter Tryd.func41, Tryd.ntmps41
        go_wp2_with fail
        go_ret
        exact ⟨rfl, (Same.refl _ w).alloc _⟩
      · have d4 : ((value.size : Int) == 0) = false := by rw [beq_eq_false_iff_ne]; omega
        obtain rfl : B = false := by rw [eB]; simp [h4]
        clear eB
        go_enter Tryd.func41, Tryd.ntmps41
        go_wp2_with fail
        go_ret
        exact ⟨rfl, (Same.refl _ w).alloc _⟩
  have t3 : (kind == 3) = false := by simpa using k3
  obtain rfl : B = false := by rw [eB]; simp [k1, k2, k3]
  clear eB
  go_enter Tryd.func41, Tryd.ntmps41
  go_wp2_with fail
  go_ret
  exact ⟨rfl, (Same.refl _ w).alloc _⟩
set_option maxRecDepth 100000 in
set_option maxHeartbeats 6400000 in
theorem validR_any (w : World) (t : TxM) (v : Value) (h : TxA w t v) : Calls Tryd.prog 21 #[v] w fun e w' => e = .returned (.int .i64 (valid t)) ∧ Kept w w' := by
  have hnot : ∀ (x : Bool) (w : World), (Op.unary .not (.bool x)).run Tryd.prog w = .ok (.bool (!x)) w := fun _ _ => rfl
  obtain ⟨a, c, rfl, ho⟩ := h
  have H0 : Hid (∀ W, _) := fun W => bad_any t.f0 1048575 W
  have H1 : Hid (∀ W, _) := fun W => bad_any t.f1 1048575 W
  have H2 : Hid (∀ W, _) := fun W => bad_any t.f2 1099511627776 W
  have H3 : Hid (∀ W, _) := fun W => bad_any t.f3 1099511627776 W
  have H4 : Hid (∀ W, _) := fun W => bad_any t.f4 1099511627776 W
  have H5 : Hid (∀ W, _) := fun W => bad_any t.f5 1099511627776 W
  have H6 : Hid (∀ W, _) := fun W => bad_any t.f6 1 W
  obtain ⟨b0, e0⟩ : ∃ b : Bool, b = decide (inB t.f0 1048575) := ⟨_, rfl⟩
  rw [← e0] at H0
  obtain ⟨b1, e1⟩ : ∃ b : Bool, b = decide (inB t.f1 1048575) := ⟨_, rfl⟩
  rw [← e1] at H1
  obtain ⟨b2, e2⟩ : ∃ b : Bool, b = decide (inB t.f2 1099511627776) := ⟨_, rfl⟩
  rw [← e2] at H2
  obtain ⟨b3, e3⟩ : ∃ b : Bool, b = decide (inB t.f3 1099511627776) := ⟨_, rfl⟩
  rw [← e3] at H3
  obtain ⟨b4, e4⟩ : ∃ b : Bool, b = decide (inB t.f4 1099511627776) := ⟨_, rfl⟩
  rw [← e4] at H4
  obtain ⟨b5, e5⟩ : ∃ b : Bool, b = decide (inB t.f5 1099511627776) := ⟨_, rfl⟩
  rw [← e5] at H5
  obtain ⟨b6, e6⟩ : ∃ b : Bool, b = decide (inB t.f6 1) := ⟨_, rfl⟩
  rw [← e6] at H6
  have HR : decide (rightF t) = (b0 && b1 && b2 && b3 && b4 && b5 && b6) := by
    rw [e0, e1, e2, e3, e4, e5, e6, Bool.eq_iff_iff, decide_eq_true_iff]
    simp only [rightF, Bool.and_eq_true, decide_eq_true_eq, and_assoc]
  have HRO : Hid (∀ o W, _) := fun o W => rightOp_any o W
  obtain ⟨Z, eZ⟩ : ∃ Z, Z = valid t := ⟨_, rfl⟩
  rw [← eZ]
  unfold valid at eZ
  have HO : Hid _ := ho
  obtain ⟨n, en⟩ : ∃ n, n = t.ops.length := ⟨_, rfl⟩
  have EN : Hid _ := en
  unfold txV
  rw [← en] at eZ ⊢
  clear e0 e1 e2 e3 e4 e5 e6 ho en
  cases b0 with
  | false =>
    have hf : ¬ rightF t := by simpa using HR
    rw [if_pos hf] at eZ
    subst eZ
    clear hf HR
    go_enter Tryd.func21, Tryd.ntmps21
    go_wp2_with fail
    refine Calls.mono (H0.out _) ?_
    rintro r w1 ⟨rfl, rfl⟩
    go_wp2_with fail
    go_ret
    exact ⟨rfl, (Same.refl _ w).alloc _⟩
  | true =>
    cases b1 with
    | false =>
      have hf : ¬ rightF t := by simpa using HR
      rw [if_pos hf] at eZ
      subst eZ
      clear hf HR
      go_enter Tryd.func21, Tryd.ntmps21
      go_wp2_with fail
      refine Calls.mono (H0.out _) ?_
      rintro r w1 ⟨rfl, rfl⟩
      go_wp2_with fail
      refine Calls.mono (H1.out _) ?_
      rintro r w1 ⟨rfl, rfl⟩
      go_wp2_with fail
      go_ret
      exact ⟨rfl, (Same.refl _ w).alloc _⟩
    | true =>
      cases b2 with
      | false =>
        have hf : ¬ rightF t := by simpa using HR
        rw [if_pos hf] at eZ
        subst eZ
        clear hf HR
        go_enter Tryd.func21, Tryd.ntmps21
        go_wp2_with fail
        refine Calls.mono (H0.out _) ?_
        rintro r w1 ⟨rfl, rfl⟩
        go_wp2_with fail
        refine Calls.mono (H1.out _) ?_
        rintro r w1 ⟨rfl, rfl⟩
        go_wp2_with fail
        refine Calls.mono (H2.out _) ?_
        rintro r w1 ⟨rfl, rfl⟩
        go_wp2_with fail
        go_ret
        exact ⟨rfl, (Same.refl _ w).alloc _⟩
      | true =>
        cases b3 with
        | false =>
          have hf : ¬ rightF t := by simpa using HR
          rw [if_pos hf] at eZ
          subst eZ
          clear hf HR
          go_enter Tryd.func21, Tryd.ntmps21
          go_wp2_with fail
          refine Calls.mono (H0.out _) ?_
          rintro r w1 ⟨rfl, rfl⟩
          go_wp2_with fail
          refine Calls.mono (H1.out _) ?_
          rintro r w1 ⟨rfl, rfl⟩
          go_wp2_with fail
          refine Calls.mono (H2.out _) ?_
          rintro r w1 ⟨rfl, rfl⟩
          go_wp2_with fail
          refine Calls.mono (H3.out _) ?_
          rintro r w1 ⟨rfl, rfl⟩
          go_wp2_with fail
          go_ret
          exact ⟨rfl, (Same.refl _ w).alloc _⟩
        | true =>
          cases b4 with
          | false =>
            have hf : ¬ rightF t := by simpa using HR
            rw [if_pos hf] at eZ
            subst eZ
            clear hf HR
            go_enter Tryd.func21, Tryd.ntmps21
            go_wp2_with fail
            refine Calls.mono (H0.out _) ?_
            rintro r w1 ⟨rfl, rfl⟩
            go_wp2_with fail
            refine Calls.mono (H1.out _) ?_
            rintro r w1 ⟨rfl, rfl⟩
            go_wp2_with fail
            refine Calls.mono (H2.out _) ?_
            rintro r w1 ⟨rfl, rfl⟩
            go_wp2_with fail
            refine Calls.mono (H3.out _) ?_
            rintro r w1 ⟨rfl, rfl⟩
            go_wp2_with fail
            refine Calls.mono (H4.out _) ?_
            rintro r w1 ⟨rfl, rfl⟩
            go_wp2_with fail
            go_ret
            exact ⟨rfl, (Same.refl _ w).alloc _⟩
          | true =>
            cases b5 with
            | false =>
              have hf : ¬ rightF t := by simpa using HR
              rw [if_pos hf] at eZ
              subst eZ
              clear hf HR
              go_enter Tryd.func21, Tryd.ntmps21
              go_wp2_with fail
              refine Calls.mono (H0.out _) ?_
              rintro r w1 ⟨rfl, rfl⟩
              go_wp2_with fail
              refine Calls.mono (H1.out _) ?_
              rintro r w1 ⟨rfl, rfl⟩
              go_wp2_with fail
              refine Calls.mono (H2.out _) ?_
              rintro r w1 ⟨rfl, rfl⟩
              go_wp2_with fail
              refine Calls.mono (H3.out _) ?_
              rintro r w1 ⟨rfl, rfl⟩
              go_wp2_with fail
              refine Calls.mono (H4.out _) ?_
              rintro r w1 ⟨rfl, rfl⟩
              go_wp2_with fail
              refine Calls.mono (H5.out _) ?_
              rintro r w1 ⟨rfl, rfl⟩
              go_wp2_with fail
              go_ret
              exact ⟨rfl, (Same.refl _ w).alloc _⟩
            | true =>
              cases b6 with
              | false =>
                have hf : ¬ rightF t := by simpa using HR
                rw [if_pos hf] at eZ
                subst eZ
                clear hf HR
                go_enter Tryd.func21, Tryd.ntmps21
                go_wp2_with fail
                refine Calls.mono (H0.out _) ?_
                rintro r w1 ⟨rfl, rfl⟩
                go_wp2_with fail
                refine Calls.mono (H1.out _) ?_
                rintro r w1 ⟨rfl, rfl⟩
                go_wp2_with fail
                refine Calls.mono (H2.out _) ?_
                rintro r w1 ⟨rfl, rfl⟩
                go_wp2_with fail
                refine Calls.mono (H3.out _) ?_
                rintro r w1 ⟨rfl, rfl⟩
                go_wp2_with fail
                refine Calls.mono (H4.out _) ?_
                rintro r w1 ⟨rfl, rfl⟩
                go_wp2_with fail
                refine Calls.mono (H5.out _) ?_
                rintro r w1 ⟨rfl, rfl⟩
                go_wp2_with fail
                refine Calls.mono (H6.out _) ?_
                rintro r w1 ⟨rfl, rfl⟩
                go_wp2_with fail
                go_ret
                exact ⟨rfl, (Same.refl _ w).alloc _⟩
              | true =>
                have hf : rightF t := by simpa using HR
                rw [if_neg (by simpa using hf)] at eZ
                clear hf HR
                by_cases h2 : 16 < n
                · rw [if_pos h2] at eZ
                  subst eZ
                  have d2 : decide ((16 : Int) < (n : Int)) = true := decide_eq_true (by omega)
                  have d2' : (16 : Int) < (n : Int) := by omega
                  go_enter Tryd.func21, Tryd.ntmps21
                  go_wp2_with fail
                  refine Calls.mono (H0.out _) ?_
                  rintro r w1 ⟨rfl, rfl⟩
                  go_wp2_with fail
                  refine Calls.mono (H1.out _) ?_
                  rintro r w1 ⟨rfl, rfl⟩
                  go_wp2_with fail
                  refine Calls.mono (H2.out _) ?_
                  rintro r w1 ⟨rfl, rfl⟩
                  go_wp2_with fail
                  refine Calls.mono (H3.out _) ?_
                  rintro r w1 ⟨rfl, rfl⟩
                  go_wp2_with fail
                  refine Calls.mono (H4.out _) ?_
                  rintro r w1 ⟨rfl, rfl⟩
                  go_wp2_with fail
                  refine Calls.mono (H5.out _) ?_
                  rintro r w1 ⟨rfl, rfl⟩
                  go_wp2_with fail
                  refine Calls.mono (H6.out _) ?_
                  rintro r w1 ⟨rfl, rfl⟩
                  go_wp2_with fail
                  go_ret
                  exact ⟨rfl, (Same.refl _ w).alloc _⟩
                rw [if_neg h2] at eZ
                have d2 : decide ((16 : Int) < (n : Int)) = false := decide_eq_false (by omega)
                have d2' : ¬ (16 : Int) < (n : Int) := by omega
                have EZ : Hid _ := eZ
                clear eZ
                go_enter Tryd.func21, Tryd.ntmps21
                go_wp2_with fail
                refine Calls.mono (H0.out _) ?_
                rintro r w1 ⟨rfl, rfl⟩
                go_wp2_with fail
                refine Calls.mono (H1.out _) ?_
                rintro r w1 ⟨rfl, rfl⟩
                go_wp2_with fail
                refine Calls.mono (H2.out _) ?_
                rintro r w1 ⟨rfl, rfl⟩
                go_wp2_with fail
                refine Calls.mono (H3.out _) ?_
                rintro r w1 ⟨rfl, rfl⟩
                go_wp2_with fail
                refine Calls.mono (H4.out _) ?_
                rintro r w1 ⟨rfl, rfl⟩
                go_wp2_with fail
                refine Calls.mono (H5.out _) ?_
                rintro r w1 ⟨rfl, rfl⟩
                go_wp2_with fail
                refine Calls.mono (H6.out _) ?_
                rintro r w1 ⟨rfl, rfl⟩
                go_wp2_with fail
                go_loopw [3] (fun i wr => ∃ j : Nat, i = .int .i64 j ∧ j ≤ n ∧ (∀ o ∈ t.ops.take j, rightO o) ∧ Kept (w.alloc (.cells #[.int .i64 t.f0, .int .i64 t.f1, .int .i64 t.f2, .int .i64 t.f3, .int .i64 t.f4, .int .i64 t.f5, .int .i64 t.f6, .slice a n c] 25 (0, 0))) wr) (fun i _ => n - (intOf i).toNat)
                case atStart => exact ⟨0, rfl, Nat.zero_le _, by simp, Same.refl _ _⟩
                case round =>
                  obtain ⟨j, rfl, hj, hall, kk⟩ := hrel
                  have x1 := (kk.block w.heap.size (by simp [World.size_alloc]) (fun h => h)).trans (heap_new w _)
                  obtain ⟨⟨-, -, -, -, -, -, -, c7⟩, -⟩ := tx_obj x1
                  have KK : Hid _ := kk
                  have KW : Hid (Kept w wr) := ((Same.refl _ w).alloc _).trans' kk
                  have HAL : Hid _ := hall
                  have X1 : Hid _ := x1
                  clear kk x1 hall
                  by_cases hlt : j < n
                  · have e1 : decide ((j : Int) < (n : Int)) = true := decide_eq_true (by omega)
                    have hlt2 : (j : Int) < (n : Int) := by omega
                    obtain ⟨o, he⟩ : ∃ o, t.ops[j]? = some o := ⟨_, List.getElem?_eq_getElem (by rw [← EN.out]; exact hlt)⟩
                    obtain ⟨x, ox, rfl, hx, q0, q1, q2, q3⟩ := (OpsAt.on HO.out KW.out) j o he
                    have HE : Hid _ := he
                    have HC : Hid (∀ W, _) := HRO.out o
                    unfold opV at HC
                    clear he
                    by_cases hro : rightO o
                    · rw [decide_eq_true hro] at HC
                      go_wp2_with fail
                      refine Calls.mono (HC.out _) ?_
                      rintro r w2 ⟨rfl, k2⟩
                      go_wp2_with fail
                      go_roundw
                      case rel =>
                        refine ⟨j + 1, by congr 1, hlt, fun o' ho' => ?_, KK.out.trans' k2⟩
                        rw [List.take_add_one, HE.out] at ho'
                        rcases List.mem_append.1 ho' with ho' | ho'
                        · exact HAL.out o' ho'
                        · simp at ho'
                          subst ho'
                          exact hro
                      case measure => simp only [intOf]; omega
                    · rw [decide_eq_false hro] at HC
                      have hz : Z = 64 := by
                        rw [EZ.out, if_pos ⟨o, List.mem_of_getElem? HE.out, hro⟩]
                      subst hz
                      go_wp2_with fail
                      refine Calls.mono (HC.out _) ?_
                      rintro r w2 ⟨rfl, k2⟩
                      go_wp2_with fail
                      go_ret
                      exact ⟨rfl, KW.out.trans' k2⟩
                  · obtain rfl : j = n := by omega
                    have e1 : decide ((j : Int) < (j : Int)) = false := decide_eq_false (by omega)
                    have hz : Z = 0 := by
                      rw [EZ.out, if_neg]
                      rintro ⟨o, ho, hn⟩
                      have := HAL.out
                      rw [EN.out, List.take_length] at this
                      exact hn (this o ho)
                    subst hz
                    go_wp2_with fail
                    go_ret
                    exact ⟨rfl, KW.out⟩
end Go.Proofs.YtlldgibpajbabaaDoor
