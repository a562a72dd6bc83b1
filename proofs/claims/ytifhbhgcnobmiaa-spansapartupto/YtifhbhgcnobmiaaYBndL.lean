/- What is proved: the law on bounds answers true for every key and span; the forest lies in memory. -/
import Derived.Test.YtifhbhgcnobmiaaYAnch
namespace Go.Proofs.Ytifhbhgcnobmiaa
open Go.RowKit

theorem rdel_one (k : ByteArray) (x : Sp) : rdel [⟨k, x⟩] k x = [] := by simp [rdel]
theorem code_one {k : ByteArray} {x : Sp} (h1 : rightK k = true) (h2 : rightS x = true) : codeI [⟨k, x⟩] k x = 141 := by
  unfold codeI
  rw [if_neg (by rw [h1]; decide), if_neg (by rw [h2]; decide), if_pos (by rw [kf_one]; simp)]
theorem ins_one {k : ByteArray} {x : Sp} (h1 : rightK k = true) (h2 : rightS x = true) : insI [⟨k, x⟩] k x = [⟨k, x⟩] := by
  unfold insI
  rw [code_one h1 h2, if_neg (by decide)]
theorem ptr_eql (w : World) (a : Addr) : (binOp .eql 24 (.pointer (some a)) (.pointer none)).run Try.prog w = .ok (.bool false) w := by go_simp
set_option maxRecDepth 100000 in
set_option maxHeartbeats 3200000 in
theorem bounds14 (k : ByteArray) (x : Sp) (w : World) (hk : k.size ≤ maxLen) :
    Calls Try.prog 8 #[.string k, spV x] w fun r w' => r = .returned (.bool true) ∧ Kept w w' := by
  have q := ptr_eql
  have HAN : Hid (∀ W, _) := anchor14
  have HNW : Hid (∀ W, _) := new14
  have hks : (k.size : Int) ≤ 9223372036854775807 := by unfold maxLen at hk; omega
  have K0 : Hid _ := (Same.refl (fun _ => False) w).alloc (spO x)
  have HG : Hid _ := heap_new w (spO x)
  have HRS : Hid (∀ b : Bool, (b = false ↔ _) → (!rightS x) = b) := fun b hb => by
    unfold rightS
    cases b
    · simp only [Bool.not_eq_false', decide_eq_true_eq]; exact hb.1 rfl
    · simp only [Bool.not_eq_true', decide_eq_false_iff_not]; exact fun h9 => by have := hb.2 h9; cases this
  have HKL : Hid _ := hk
  generalize hcd : codeI [] k x = cd
  obtain ⟨xf, xt, xi⟩ := x
  unfold spV
  simp only at K0 HG HRS ⊢
  go_enter Try.func8, Try.ntmps8
  go_upto_region 1 with fail
  generalize w.alloc (spO ⟨xf, xt, xi⟩) = W at K0 HG ⊢
  generalize hgg : w.heap.size = g at HG ⊢
  have HGG : Hid _ := hgg
  clear hgg
  go_wp2_with fail
  refine Calls.mono (HAN.out W) ?_
  rintro r w1 ⟨rfl, k1⟩
  have K1 : Hid (Kept W w1) := k1
  clear k1 HAN
  go_wp2_with fail
  refine Calls.mono (HNW.out w1) ?_
  rintro r w2 ⟨fb, F, rfl, f2, hF, k2⟩
  have K2 : Hid (Kept W w2) := Same.trans' K1.out k2
  have hgl : g < W.heap.size := lt_of_heap HG.out
  have HIN : Hid _ := insert14 f2 k HKL.out ⟨xf, xt, xi⟩ (by omega)
  rw [hcd] at HIN
  have HST : Hid (∀ A bd w', StpP F w2 fb A bd w' → ∃ F', Fo F' w' fb A bd ∧ (∀ b, F' b → W.heap.size ≤ b) ∧ Kept W w') := fun A bd w' h9 => h9.kept K2.out (fun b hb => Nat.le_trans K1.out.size (hF b hb))
  obtain ⟨x0, x1, x2⟩ := sp_cells ((K2.out.block g hgl (fun e => e)).trans HG.out)
  simp only at x0 x1 x2
  clear f2 hF k2 HNW
  go_wp2_with fail
  refine Calls.mono HIN.out ?_
  rintro r w3 ⟨rfl, h3⟩
  obtain ⟨F3, f3, hF3, k3⟩ := HST.out _ _ _ h3
  have K3 : Hid (Kept W w3) := k3
  have HF3 : Hid (Fo F3 w3 fb _ _) := f3
  have HFF : Hid _ := hF3
  clear x0 x1 x2 h3 HIN HST
  obtain ⟨x0, x1, x2⟩ := sp_cells ((k3.block g hgl (fun e => e)).trans HG.out)
  simp only at x0 x1 x2
  clear k3 f3 hF3
  go_upto_region 8 with fail
  go_cut [41] (fun s41 wx => s41 = .bool (!rightS ⟨xf, xt, xi⟩) ∧ wx = w3)
  case first =>
    go_wp2_with fail
    all_goals
      go_meet
      refine ⟨congrArg Value.bool (HRS.out _ ?_).symm, rfl⟩
      constructor <;> intro h9
      all_goals (first | (cases h9; done) | omega | (simp at h9; omega) | (simp; omega))
  case rest =>
    obtain ⟨rfl, hwx⟩ := hcut
    subst hwx
    have HCD : Hid _ := hcd
    clear hcd
    rename World => wx
    by_cases h1 : rightK k = true
    · have h1' : 0 < k.size ∧ k.size ≤ 8 := by simpa [rightK] using h1
      have d1 : ¬ ((k.size : Int) = 0) := by omega
      have d2 : ¬ ((8 : Int) < (k.size : Int)) := by omega
      have d3 : ¬ k = ByteArray.empty := fun e9 => by rw [e9] at h1'; simp at h1'
      have d4 : ¬ (k.size = 0) := by omega
      by_cases h2 : rightS ⟨xf, xt, xi⟩ = true
      · have ec := codeI_nil h1 h2
        have ei := insI_nil h1 h2
        have EC : Hid (cd = 0) := (show codeI [] k _ = cd from HCD.out).symm.trans ec
        have hf : Fo F3 wx fb [⟨k, ⟨xf, xt, xi⟩⟩] 1 := by rw [← ei]; exact HF3.out
        have HC : Hid _ := count14 hf
        have HH : Hid _ := height14 hf _ HKL.out
        have HF4 : Hid _ := hf
        have HIN2 : Hid (∀ W', Kept wx W' → _) := fun W' k9 => insert14 (hf.on k9) k HKL.out ⟨xf, xt, xi⟩ (by omega)
        rw [code_one h1 h2, ins_one h1 h2] at HIN2
        rw [kf_one] at HH
        rw [show cd = 0 from EC.out, h2]
        clear ec ei hf HF3 h1 h2 h1'
        go_wp2_with fail
        refine Calls.mono HC.out ?_
        rintro r w4 ⟨rfl, rfl⟩
        go_wp2_with fail
        refine Calls.mono HH.out ?_
        rintro r w5 ⟨t, rfl, h5, h6, k5⟩
        obtain rfl : t = 1 := h5.one h6
        have HIN3 : Hid _ := HIN2.out w5 k5
        have K5 : Hid (Kept W w5) := Same.trans' K3.out k5
        clear x0 x1 x2
        obtain ⟨x0, x1, x2⟩ := sp_cells ((K5.out.block g hgl (fun e => e)).trans HG.out)
        simp only at x0 x1 x2
        clear h5 h6 k5
        go_wp2_with fail
        refine Calls.mono HIN3.out ?_
        rintro r w6 ⟨rfl, h6⟩
        obtain ⟨F6, f6, hF6, k6⟩ := h6.kept K5.out HFF.out
        have K6 : Hid (Kept W w6) := k6
        have HRM : Hid _ := remove14 f6 k HKL.out ⟨xf, xt, xi⟩ (by omega)
        rw [rdel_one, kf_one] at HRM
        have HFF6 : Hid _ := hF6
        clear x0 x1 x2
        obtain ⟨x0, x1, x2⟩ := sp_cells ((K6.out.block g hgl (fun e => e)).trans HG.out)
        simp only at x0 x1 x2
        clear h6 f6 hF6 k6 HIN2 HIN3
        go_wp2_with fail
        refine Calls.mono HRM.out ?_
        rintro r w7 ⟨⟨b, rfl, hb⟩, h7⟩
        have eb : b = true := hb.2 (by simp)
        subst eb
        obtain ⟨F7, f7, hF7, k7⟩ := h7.kept K6.out HFF6.out
        have K7 : Hid (Kept W w7) := k7
        have HC7 : Hid _ := count14 f7
        have HH7 : Hid _ := height14 f7 k HKL.out
        rw [kf_nil] at HH7
        clear h7 f7 hF7 k7 hb
        go_wp2_with fail
        refine Calls.mono HC7.out ?_
        rintro r w8 ⟨rfl, rfl⟩
        go_wp2_with fail
        refine Calls.mono HH7.out ?_
        rintro r w9 ⟨t, rfl, h5, h6, k9⟩
        obtain rfl : t = 0 := High.zero h6
        have K9 : Hid _ := k9
        clear h5 h6 k9
        go_wp2_with fail
        go_ret
        exact ⟨rfl, Same.trans' K0.out (Same.trans' K7.out K9.out)⟩
      · have h2' : rightS ⟨xf, xt, xi⟩ = false := by simpa using h2
        rw [h2']
        have ec : codeI [] k ⟨xf, xt, xi⟩ = 140 := by unfold codeI; rw [if_neg (by rw [h1]; decide), if_pos h2']
        clear h1 h2 h1' h2'
        have ei : insI [] k ⟨xf, xt, xi⟩ = [] := by unfold insI; rw [ec, if_neg (by decide)]
        have EC : Hid (cd = 140) := (show codeI [] k _ = cd from HCD.out).symm.trans ec
        have hf : Fo F3 wx fb [] 1 := by rw [← ei]; exact HF3.out
        have HC : Hid _ := count14 hf
        have HH : Hid _ := height14 hf _ HKL.out
        have HF4 : Hid _ := hf
        rw [kf_nil] at HH
        rw [show cd = 140 from EC.out]
        clear ec ei hf HF3
        go_wp2_with fail
        refine Calls.mono HC.out ?_
        rintro r w4 ⟨rfl, rfl⟩
        go_wp2_with fail
        refine Calls.mono HH.out ?_
        rintro r w5 ⟨t, rfl, h5, h6, k5⟩
        obtain rfl : t = 0 := High.zero h6
        have HRM : Hid _ := remove14 (Fo.on HF4.out k5) _ HKL.out ⟨xf, xt, xi⟩ (by omega)
        have K5 : Hid _ := k5
        clear x0 x1 x2
        obtain ⟨x0, x1, x2⟩ := sp_cells (((Same.trans' K3.out k5).block g hgl (fun e => e)).trans HG.out)
        simp only at x0 x1 x2
        clear h5 h6 k5
        go_wp2_with fail
        refine Calls.mono HRM.out ?_
        rintro r w6 ⟨⟨b, rfl, hb⟩, h6⟩
        have eb : b = false := by
          cases b
          · rfl
          · have := hb.1 rfl
            rw [kf_nil] at this
            simp at this
        subst eb
        obtain ⟨F6, f6, hF6, k6⟩ := h6.kept (Same.trans' K3.out K5.out) HFF.out
        have K6 : Hid _ := k6
        clear h6 f6 hF6 k6 hb
        go_wp2_with fail
        go_ret
        exact ⟨rfl, Same.trans' K0.out K6.out⟩
    · have h1' : ¬ (0 < k.size ∧ k.size ≤ 8) := by simpa [rightK] using h1
      have ec : codeI [] k ⟨xf, xt, xi⟩ = 130 := by unfold codeI; rw [if_pos (by simpa using h1)]
      have ei : insI [] k ⟨xf, xt, xi⟩ = [] := by unfold insI; rw [ec, if_neg (by decide)]
      have EC : Hid (cd = 130) := (show codeI [] k _ = cd from HCD.out).symm.trans ec
      have d1 : k = ByteArray.empty ∨ (¬ k = ByteArray.empty ∧ (¬ ((k.size : Int) = 0) ∧ ((8 : Int) < (k.size : Int)))) := by
        by_cases h9 : k.size = 0
        · exact .inl (ByteArray.size_eq_zero_iff.1 h9)
        · exact .inr ⟨fun e9 => h9 (by rw [e9]; rfl), by omega, by omega⟩
      clear h1 h1'
      rcases d1 with rfl | ⟨d3, d1, d2⟩
      all_goals
        cases h2 : rightS ⟨xf, xt, xi⟩
        all_goals
          clear h2
          have hf : Fo F3 wx fb [] 1 := by rw [← ei]; exact HF3.out
          have HC : Hid _ := count14 hf
          have HH : Hid _ := height14 hf _ HKL.out
          have HF4 : Hid _ := hf
          rw [kf_nil] at HH
          rw [show cd = 130 from EC.out]
          clear ec ei hf HF3
          go_wp2_with fail
          refine Calls.mono HC.out ?_
          rintro r w4 ⟨rfl, rfl⟩
          go_wp2_with fail
          refine Calls.mono HH.out ?_
          rintro r w5 ⟨t, rfl, h5, h6, k5⟩
          obtain rfl : t = 0 := High.zero h6
          have HRM : Hid _ := remove14 (Fo.on HF4.out k5) _ HKL.out ⟨xf, xt, xi⟩ (by omega)
          have K5 : Hid _ := k5
          clear x0 x1 x2
          obtain ⟨x0, x1, x2⟩ := sp_cells (((Same.trans' K3.out k5).block g hgl (fun e => e)).trans HG.out)
          simp only at x0 x1 x2
          clear h5 h6 k5
          go_wp2_with fail
          refine Calls.mono HRM.out ?_
          rintro r w6 ⟨⟨b, rfl, hb⟩, h6⟩
          have eb : b = false := by
            cases b
            · rfl
            · have := hb.1 rfl
              rw [kf_nil] at this
              simp at this
          subst eb
          obtain ⟨F6, f6, hF6, k6⟩ := h6.kept (Same.trans' K3.out K5.out) HFF.out
          have K6 : Hid _ := k6
          clear h6 f6 hF6 k6 hb
          go_wp2_with fail
          go_ret
          exact ⟨rfl, Same.trans' K0.out K6.out⟩
end Go.Proofs.Ytifhbhgcnobmiaa
