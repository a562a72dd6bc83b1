/- What is proved: ExtentMemory answers true for every number. -/
import Derived.Test.YtfllilgadphlcaaEMemM2
namespace Go.Proofs.Ytfllilgadphlcaa
open Go.RowKit

set_option maxRecDepth 100000 in
theorem memory_no (N : Int) (w : World) (hN : N < 2 ∨ 100 < N) :
    Calls Try.prog 8 #[.int .i64 N] w fun e w' => e = .returned (.bool true) ∧ Kept w w' := by
  have hnot : ∀ (x : Bool) (w : World), (Op.unary .not (.bool x)).run Try.prog w = .ok (.bool (!x)) w := fun _ _ => rfl
  have HA : Hid (∀ w', _) := fun w' => anchor_any w'
  by_cases h1 : N < 2
  · have h1' : decide (N < 2) = true := decide_eq_true h1
    clear hN
    go_enter Try.func8, Try.ntmps8
    go_wp2_with fail
    refine Calls.mono (HA.out _) ?_
    rintro e w1 ⟨rfl, k1⟩
    go_wp2_with fail
    go_ret
    exact ⟨rfl, k1⟩
  · have h1' : decide (N < 2) = false := decide_eq_false h1
    have h2 : 100 < N := by omega
    have h2' : decide (100 < N) = true := decide_eq_true h2
    clear hN
    go_enter Try.func8, Try.ntmps8
    go_wp2_with fail
    refine Calls.mono (HA.out _) ?_
    rintro e w1 ⟨rfl, k1⟩
    go_wp2_with fail
    go_ret
    exact ⟨rfl, k1⟩

/-- What is free when j odd blocks are taken. -/
def Odd (N j : Nat) (b : Int) : Prop := (0 ≤ b ∧ b < N) ∧ ¬ ∃ k : Nat, k < j ∧ b = 2 * k + 1

set_option maxRecDepth 100000 in
set_option maxHeartbeats 400000 in
theorem memory_yes (n : Nat) (w : World) (h2 : 2 ≤ n) (h100 : n ≤ 100) :
    Calls Try.prog 8 #[.int .i64 (n : Int)] w fun e w' => e = .returned (.bool true) ∧ Kept w w' := by
  have hnot : ∀ (x : Bool) (w : World), (Op.unary .not (.bool x)).run Try.prog w = .ok (.bool (!x)) w := fun _ _ => rfl
  have HA : Hid (∀ w', _) := fun w' => anchor_any w'
  obtain ⟨N, eN⟩ : ∃ N, N = 2 * n + 1 := ⟨_, rfl⟩
  have HN : Hid (∀ w', _) := fun w' => new_x N (by omega) w'
  have hNe : 2 * (n : Int) + 1 = (N : Int) := by omega
  have EN : Hid _ := eN
  have d1 : decide ((n : Int) < 2) = false := decide_eq_false (by omega)
  have d2 : decide (100 < (n : Int)) = false := decide_eq_false (by omega)
  have d1' : ¬ ((n : Int) < 2) := by omega
  have d2' : ¬ (100 < (n : Int)) := by omega
  clear eN
  go_enter Try.func8, Try.ntmps8
  go_wp2_with fail
  refine Calls.mono (HA.out _) ?_
  rintro e w1 ⟨rfl, k1⟩
  have K1 : Hid _ := k1
  clear k1
  go_wp2_with fail
  refine Calls.mono (HN.out _) ?_
  rintro e w2 ⟨p, L0, rfl, hsp, hm0, k2⟩
  have K2 : Hid (Kept w w2) := K1.out.trans' k2
  have S2 : Hid (SpX (fun k => k < w.heap.size) w2 p N L0) := hsp.mono fun k _ h => Nat.lt_of_lt_of_le h K1.out.size
  have M2 : Hid _ := hm0
  clear hsp hm0 k2
  go_upto_block 0 with fail
  go_cut [5] (fun _ wx => SpX (fun k => k < w.heap.size) wx p N (evs 0 (n + 1)) ∧ Kept w wx)
  case first =>
    go_wp2_with fail
    go_loopw [5] (fun i wr => ∃ (j : Nat) (L : List Ex), j ≤ n ∧ i = .int .i64 j ∧ SpX (fun k => k < w.heap.size) wr p N L ∧ (∀ b, Mm b L ↔ Odd N j b) ∧ Kept w wr) (fun i _ => n - (intOf i).toNat)
    case atStart => exact ⟨0, L0, Nat.zero_le _, rfl, S2.out, fun b => (M2.out b).trans ⟨fun h => ⟨h, fun ⟨k, hk, _⟩ => by omega⟩, fun h => h.1⟩, K2.out⟩
    case round =>
      obtain ⟨j, L, hj, rfl, hsp, hmm, kk⟩ := hrel
      have KR : Hid _ := kk
      have HSR : Hid _ := hsp
      have HMM : Hid _ := hmm
      by_cases hlt : j < n
      · have c1' : decide ((j : Int) < (n : Int)) = true := by simp only [decide_eq_true_eq]; omega
        have hlt2 : (j : Int) < (n : Int) := by omega
        have HC : Hid _ := take_x (fun k hk => Nat.lt_of_lt_of_le hk kk.size) hsp ⟨2 * (j : Int) + 1, 1⟩ (by show 2 * (j : Int) + 1 ≤ _; omega)
        have hNj : 2 * (j : Int) + 2 ≤ N := by omega
        have HHS : Hid (Has N ⟨2 * (j : Int) + 1, 1⟩) := ⟨Int.le_refl _, by show (0 : Int) ≤ 2 * (j : Int) + 1; omega, by show (1 : Int) ≤ N - (2 * (j : Int) + 1); omega⟩
        have HAF : Hid (AllF ⟨2 * (j : Int) + 1, 1⟩ L) := fun b b1 b2 => by
          have b1 : 2 * (j : Int) + 1 ≤ b := b1
          have b2 : b < 2 * (j : Int) + 1 + 1 := b2
          exact (hmm b).2 ⟨by omega, fun ⟨k, hk, e⟩ => by omega⟩
        unfold exV at HC
        clear kk hsp hmm
        go_wp2_with fail
        refine Calls.mono HC.out ?_
        rintro r w3 ⟨z, L3, rfl, ⟨hs3, k3⟩, h3⟩
        obtain ⟨rfl, hm3⟩ : z = 0 ∧ ∀ b, Mm b L3 ↔ Mm b L ∧ ¬ (2 * (j : Int) + 1 ≤ b ∧ b < 2 * (j : Int) + 1 + 1) := by
          rcases h3 with ⟨h, _⟩ | ⟨_, h, _⟩ | ⟨_, _, h1, h2⟩
          · exact absurd HHS.out h
          · exact absurd HAF.out h
          · exact ⟨h1, h2⟩
        have HS3 : Hid _ := hs3
        have HM3 : Hid _ := hm3
        have K3 : Hid (Kept w w3) := kept_of KR.out k3 (fun _ h => h)
        clear h3 hs3 hm3 k3
        go_wp2_with fail
        go_roundw
        case rel =>
          refine ⟨j + 1, L3, by omega, by simp, HS3.out, fun b => ?_, K3.out⟩
          rw [HM3.out b, HMM.out b]
          constructor
          · rintro ⟨⟨h1, h2⟩, h3⟩
            refine ⟨h1, fun ⟨k, hk, e⟩ => ?_⟩
            rcases Nat.lt_or_ge k j with q | q
            · exact h2 ⟨k, q, e⟩
            · obtain rfl : k = j := by omega
              omega
          · rintro ⟨h1, h2⟩
            exact ⟨⟨h1, fun ⟨k, hk, e⟩ => h2 ⟨k, by omega, e⟩⟩, fun h => h2 ⟨j, by omega, by omega⟩⟩
        case measure => simp only [intOf]; omega
      · have c1' : decide ((j : Int) < (n : Int)) = false := by simp only [decide_eq_false_iff_not]; omega
        obtain rfl : j = n := by omega
        have HL : Hid (L = evs 0 (j + 1)) := by
          refine wf_eq (SpX.wf HSR.out) (wf_evs (by have := EN.out; omega)) fun b => ?_
          rw [HMM.out b, mm_evs]
          constructor
          · rintro ⟨h1, h2⟩
            rcases (show b % 2 = 0 ∨ b % 2 = 1 by omega) with q | q
            · exact ⟨(b / 2).toNat, by omega, by omega⟩
            · exact absurd ⟨(b / 2).toNat, by omega, by omega⟩ h2
          · rintro ⟨i, h1, h2⟩
            exact ⟨by omega, fun ⟨k, hk, e⟩ => by omega⟩
        clear kk hsp hmm
        go_wp2_with fail
        go_meet
        refine ⟨?_, KR.out⟩
        rw [← HL.out]
        exact HSR.out
  case rest =>
    obtain ⟨hsp, kc⟩ := hcut
    have HH1 : Hid _ := holes_x hsp
    have HH2 : Hid (∀ W, Kept wc W → _) := fun W (k : Kept wc W) => holes_x (hsp.on k)
    have HSC : Hid _ := hsp
    have KC : Hid _ := kc
    obtain ⟨L, eL⟩ : ∃ L, L = evs 0 (n + 1) := ⟨_, rfl⟩
    obtain ⟨K, eK⟩ : ∃ K : Nat, K = n + 1 := ⟨_, rfl⟩
    have hK : (n : Int) + 1 = (K : Int) := by omega
    have EK : Hid _ := eK
    have hLl : L.length = K := by rw [eL, length_evs, eK]
    have hK0 : 0 < K := by omega
    rw [← eL] at HH1 HH2 HSC
    have EL : Hid _ := eL
    clear hsp kc eL eK
    go_wp2_with fail
    refine Calls.mono HH1.out ?_
    rintro r w3 ⟨v3, rfl, ⟨⟨_, h0⟩ | ⟨g1, cap1, rfl, hg1, hr1⟩, k3⟩⟩
    · rw [h0] at hLl; simp at hLl; omega
    have K3 : Hid _ := k3
    have R1 : Hid _ := hr1
    clear k3 hr1
    rw [hLl]
    go_wp2_with fail
    refine Calls.mono (HH2.out _ K3.out) ?_
    rintro r w4 ⟨v4, rfl, ⟨⟨_, h0⟩ | ⟨g2, cap2, rfl, hg2, hr2⟩, k4⟩⟩
    · rw [h0] at hLl; simp at hLl; omega
    have R2 : Hid _ := hr2
    have R1' : Hid (Row w4 g1 cap1 L) := Row.kept R1.out k4 (fun h => h)
    have K4 : Hid (Kept wc w4) := K3.out.trans' k4
    have hg12 : g1 < g2 := Nat.lt_of_lt_of_le (Row.lt R1.out) hg2
    have S4 : Hid (SpX (fun k => k < w.heap.size ∨ g1 ≤ k) w4 p N L) := by
      obtain ⟨a, hb, c, q, q1, q2⟩ := HSC.out
      refine ⟨a, hb, c, q.kept0 K4.out, ?_, ?_⟩
      · rintro (e | e)
        · exact q1 e
        · have := q.ltb; omega
      · rintro (e | e)
        · exact q2 e
        · have := q.lt; omega
    have K04 : Hid (Kept w w4) := KC.out.trans' K4.out
    have hgw : w.heap.size ≤ g1 := Nat.le_trans KC.out.size hg1
    rw [hLl]
    clear k4 hr2 hg2 HH1 HH2
    go_upto_block 2 with fail
    go_cut [67, 8] (fun _ _ wx => ∃ A, Row wx g1 cap1 A ∧ A.length = K ∧ Marked (-1) K A ∧ Same (fun k => k = g1) w4 wx)
    case first =>
      clear HA HN K1 K2 S2 M2 HSC KC R1 K3 K4 S4 K04
      go_wp2_with fail
      go_loopw [67, 8] (fun i _ wr => ∃ (j : Nat) (A : List Ex), j ≤ K ∧ i = .int .i64 j ∧ Row wr g1 cap1 A ∧ A.length = K ∧ Marked (-1) j A ∧ Same (fun k => k = g1) w4 wr) (fun i _ _ => K - (intOf i).toNat)
      case atStart => exact ⟨0, L, Nat.zero_le _, rfl, R1'.out, hLl, fun i hi => absurd hi (by omega), Same.refl _ _⟩
      case round =>
        obtain ⟨j, A, hj, rfl, hrow, hAl, hmk, kk⟩ := hrel
        have HRW : Hid _ := hrow
        have HMK : Hid _ := hmk
        have KR : Hid _ := kk
        have HAL : Hid _ := hAl
        by_cases hlt : j < K
        · have c1' : decide ((j : Int) < (K : Int)) = true := by simp only [decide_eq_true_eq]; omega
          have hlt2 : (j : Int) < (K : Int) := by omega
          obtain ⟨e, he⟩ : ∃ e, A[j]? = some e := ⟨_, List.getElem?_eq_getElem (by omega)⟩
          obtain ⟨b, off, hga, hb, q0, q1⟩ := hrow.exts j e he
          cases hga
          rw [Nat.zero_add] at q0 q1
          have f0 := hrow.frozen (j * 2)
          have f1 := hrow.frozen (j * 2 + 1)
          have HLT : Hid (j < A.length) := by rw [hAl]; exact hlt
          clear kk he hrow hmk hAl
          go_wp2_with fail
          go_roundw
          case rel => exact ⟨j + 1, A.set j ⟨-1, (j : Int)⟩, by omega, by simp, Row.set HRW.out HLT.out ⟨-1, (j : Int)⟩, by rw [List.length_set]; exact HAL.out, Marked.next HMK.out HLT.out (j : Int), (KR.out.setCell _ (.inr rfl) _).setCell _ (.inr rfl) _⟩
          case measure => simp only [intOf]; omega
        · have c1' : decide ((j : Int) < (K : Int)) = false := by simp only [decide_eq_false_iff_not]; omega
          obtain rfl : j = K := by omega
          clear kk hrow hmk hAl
          go_wp2_with fail
          go_meet
          exact ⟨A, HRW.out, HAL.out, HMK.out, KR.out⟩
    case rest =>
      obtain ⟨A, hA, hAl, hAm, kA⟩ := hcut
      have RA : Hid _ := hA
      have LA : Hid _ := hAl
      have MA : Hid _ := hAm
      have KA : Hid _ := kA
      have RB0 : Hid (Row wc g2 cap2 L) := Row.kept R2.out kA (by omega)
      clear hA hAl hAm kA
      go_upto_block 4 with fail
      go_cut [78, 9] (fun _ _ wx => ∃ A, Row wx g2 cap2 A ∧ A.length = K ∧ Marked (-2) K A ∧ Same (fun k => k = g2) wc wx)
      case first =>
        clear HA HN K1 K2 S2 M2 HSC KC R1 K3 K4 S4 K04 RA LA MA KA
        go_wp2_with fail
        go_loopw [78, 9] (fun i _ wr => ∃ (j : Nat) (A : List Ex), j ≤ K ∧ i = .int .i64 j ∧ Row wr g2 cap2 A ∧ A.length = K ∧ Marked (-2) j A ∧ Same (fun k => k = g2) wc wr) (fun i _ _ => K - (intOf i).toNat)
        case atStart => exact ⟨0, L, Nat.zero_le _, rfl, RB0.out, hLl, fun i hi => absurd hi (by omega), Same.refl _ _⟩
        case round =>
          obtain ⟨j, A, hj, rfl, hrow, hAl, hmk, kk⟩ := hrel
          have HRW : Hid _ := hrow
          have HMK : Hid _ := hmk
          have KR : Hid _ := kk
          have HAL : Hid _ := hAl
          by_cases hlt : j < K
          · have c1' : decide ((j : Int) < (K : Int)) = true := by simp only [decide_eq_true_eq]; omega
            have hlt2 : (j : Int) < (K : Int) := by omega
            obtain ⟨e, he⟩ : ∃ e, A[j]? = some e := ⟨_, List.getElem?_eq_getElem (by omega)⟩
            obtain ⟨b, off, hga, hb, q0, q1⟩ := hrow.exts j e he
            cases hga
            rw [Nat.zero_add] at q0 q1
            have f0 := hrow.frozen (j * 2)
            have f1 := hrow.frozen (j * 2 + 1)
            have HLT : Hid (j < A.length) := by rw [hAl]; exact hlt
            clear kk he hrow hmk hAl
            go_wp2_with fail
            go_roundw
            case rel => exact ⟨j + 1, A.set j ⟨-2, (j : Int)⟩, by omega, by simp, Row.set HRW.out HLT.out ⟨-2, (j : Int)⟩, by rw [List.length_set]; exact HAL.out, Marked.next HMK.out HLT.out (j : Int), (KR.out.setCell _ (.inr rfl) _).setCell _ (.inr rfl) _⟩
            case measure => simp only [intOf]; omega
          · have c1' : decide ((j : Int) < (K : Int)) = false := by simp only [decide_eq_false_iff_not]; omega
            obtain rfl : j = K := by omega
            clear kk hrow hmk hAl
            go_wp2_with fail
            go_meet
            exact ⟨A, HRW.out, HAL.out, HMK.out, KR.out⟩
      case rest =>
        obtain ⟨B, hB, hBl, hBm, kB⟩ := hcut
        have RB : Hid _ := hB
        have LB : Hid _ := hBl
        have MB : Hid _ := hBm
        have HG12 : Hid (g1 < g2) := hg12
        have RA2 : Hid (Row wc g1 cap1 A) := Row.kept RA.out kB (by omega)
        have KWC : Hid (Kept w wc) := (K04.out.trans KA.out (fun i hi e => by omega)).trans kB (fun i hi e => by omega)
        have SWC : Hid (SpX (fun k => k < w.heap.size ∨ g1 ≤ k) wc p N L) := ((S4.out).stay KA.out (fun k _ e => .inr (by omega))).stay kB (fun k _ e => .inr (by omega))
        have HAP : Hid (∀ ty, ∃ v' w', (Builtin.append_ #[37, 37] ty #[.slice (some ⟨g1, 0, none⟩) K cap1, .slice (some ⟨wc.heap.size, 0, none⟩) 2 2]).run Try.prog (wc.alloc (.cells #[.int .i64 (-3), .int .i64 0, .int .i64 (-3), .int .i64 0] 40 (0, 0))) = .ok v' w' ∧ AppP (wc.alloc (.cells #[.int .i64 (-3), .int .i64 0, .int .i64 (-3), .int .i64 0] 40 (0, 0))) g1 A [⟨-3, 0⟩, ⟨-3, 0⟩] v' w') := fun ty => by
          have := app_any (vc := 2) (Row.kept RA2.out ((Same.refl (fun _ => False) wc).alloc (.cells #[.int .i64 (-3), .int .i64 0, .int .i64 (-3), .int .i64 0] 40 (0, 0))) (fun h => h)) (exts_two wc (-3) 0 (-3) 0 40) (by rw [LA.out]; simp; omega) ty
          rw [LA.out] at this
          exact this
        have hgl2 : Hid (g2 < wc.heap.size) := Row.lt RB.out
        clear hB hBl hBm kB
        go_upto_region 27 with (at_builtin; refine wpList_app rfl (.tmp 87) (.tmp 90) 37 rfl (.slice (some ⟨g1, 0, none⟩) K cap1) (.slice (some ⟨wc.heap.size, 0, none⟩) 2 2) rfl rfl _ HAP.out ?_; rintro v5 w5 ⟨gc, cc, rfl, eC, eA, kC, hgc⟩)
        have RB5 : Hid (Row w5 g2 cap2 B) := Row.kept (Row.kept RB.out ((Same.refl (fun _ => False) wc).alloc _) (fun h => h)) kC (by have := HG12.out; omega)
        have hAV : A.length + 2 = K + 2 := by rw [LA.out]
        rw [hAV]
        have HAP2 : Hid (∀ ty, ∃ v' w', (Builtin.append_ #[37, 37] ty #[.slice (some ⟨g2, 0, none⟩) K cap2, .slice (some ⟨w5.heap.size, 0, none⟩) 2 2]).run Try.prog (w5.alloc (.cells #[.int .i64 (-4), .int .i64 0, .int .i64 (-4), .int .i64 0] 40 (0, 0))) = .ok v' w' ∧ AppP (w5.alloc (.cells #[.int .i64 (-4), .int .i64 0, .int .i64 (-4), .int .i64 0] 40 (0, 0))) g2 B [⟨-4, 0⟩, ⟨-4, 0⟩] v' w') := fun ty => by
          have := app_any (vc := 2) (Row.kept RB5.out ((Same.refl (fun _ => False) w5).alloc (.cells #[.int .i64 (-4), .int .i64 0, .int .i64 (-4), .int .i64 0] 40 (0, 0))) (fun h => h)) (exts_two w5 (-4) 0 (-4) 0 40) (by rw [LB.out]; simp; omega) ty
          rw [LB.out] at this
          exact this
        have EC : Hid _ := eC
        have EA : Hid _ := eA
        have KC5 : Hid (Same (fun k => k = g1) wc w5) := (Kept.to ((Same.refl _ wc).alloc _) _).trans' kC
        have HGC : Hid (gc ≠ g2) := by
          show gc ≠ g2
          have := hgl2.out
          have := HG12.out
          rcases hgc with h | h
          · omega
          · simp only [World.size_alloc] at h; omega
        clear eC eA kC hgc hAV HAP
        go_upto_block 6 with (at_builtin; refine wpList_app rfl (.tmp 92) (.tmp 95) 37 rfl (.slice (some ⟨g2, 0, none⟩) K cap2) (.slice (some ⟨w5.heap.size, 0, none⟩) 2 2) rfl rfl _ HAP2.out ?_; rintro v6 w6 ⟨gd, cd, rfl, eD, eB, kD, hgd⟩)
        have KD6 : Hid (Same (fun k => k = g2) w5 w6) := (Kept.to ((Same.refl _ w5).alloc _) _).trans' kD
        have EA6 : Hid (ExtsAt w6 (some ⟨g1, 0, none⟩) A) := ExtsAt.kept EA.out KD6.out (fun k hk e => by obtain ⟨_, off, h⟩ := hk; cases h; have := HG12.out; omega)
        have EC6 : Hid (ExtsAt w6 (some ⟨gc, 0, none⟩) (A ++ [⟨-3, 0⟩, ⟨-3, 0⟩])) := ExtsAt.kept EC.out KD6.out (fun k hk e => by obtain ⟨_, off, h⟩ := hk; cases h; exact HGC.out e)
        have EB6 : Hid _ := eB
        have ED6 : Hid _ := eD
        have hBV : B.length + 2 = K + 2 := by rw [LB.out]
        rw [hBV]
        have KW6 : Hid (Kept w w6) := (KWC.out.trans KC5.out (fun i hi e => by omega)).trans KD6.out (fun i hi e => by have := HG12.out; omega)
        have SW6 : Hid (SpX (fun k => k < w.heap.size ∨ g1 ≤ k) w6 p N L) := (SpX.stay SWC.out KC5.out (fun k _ e => .inr (by omega))).stay KD6.out (fun k _ e => .inr (by have := HG12.out; omega))
        clear eB eD kD hgd HAP2 hBV
        go_cut [12] (fun _ wx => Kept w6 wx)
        case first =>
          clear HA HN K1 K2 S2 M2 HSC KC R1 K3 K4 S4 K04 RA KA RB0 RB RA2 KWC SWC RB5 EC EA KC5 KD6 KW6 SW6
          go_wp2_with fail
          go_loopw [12] (fun i wr => ∃ j : Nat, j ≤ K ∧ i = .int .i64 j ∧ Kept w6 wr) (fun i _ => K - (intOf i).toNat)
          case atStart => exact ⟨0, Nat.zero_le _, rfl, Same.refl _ _⟩
          case round =>
            obtain ⟨j, hj, rfl, kk⟩ := hrel
            have KR : Hid _ := kk
            by_cases hlt : j < K
            · have c1' : decide ((j : Int) ≤ (n : Int)) = true := by simp only [decide_eq_true_eq]; omega
              have hlt2 : (j : Int) < (K : Int) := by omega
              have hlt3 : (j : Int) < (K : Int) + 2 := by omega
              have hlt4 : (j : Int) ≤ (n : Int) := by omega
              obtain ⟨e1, he1, m1⟩ := MA.out j hlt
              obtain ⟨e2, he2, m2⟩ := MB.out j hlt
              obtain ⟨b, off, x1, x2, q0, -⟩ := (ExtsAt.kept EA6.out kk (fun _ _ h => h)) j e1 he1
              cases x1
              obtain ⟨b, off, y1, y2, r0, -⟩ := (ExtsAt.kept EB6.out kk (fun _ _ h => h)) j e2 he2
              cases y1
              obtain ⟨b, off, z1, z2, s0, -⟩ := (ExtsAt.kept EC6.out kk (fun _ _ h => h)) j e1 (by rw [List.getElem?_append_left (by rw [LA.out]; exact hlt)]; exact he1)
              cases z1
              obtain ⟨b, off, t1, t2, t0, -⟩ := (ExtsAt.kept ED6.out kk (fun _ _ h => h)) j e2 (by rw [List.getElem?_append_left (by rw [LB.out]; exact hlt)]; exact he2)
              cases t1
              rw [Nat.zero_add] at q0 r0 s0 t0
              rw [m1] at q0 s0
              rw [m2] at r0 t0
              clear kk he1 he2 m1 m2
              go_wp2_with fail
              go_roundw
              case rel => exact ⟨j + 1, by omega, by simp, KR.out⟩
              case measure => simp only [intOf]; omega
            · have c1' : decide ((j : Int) ≤ (n : Int)) = false := by simp only [decide_eq_false_iff_not]; omega
              clear kk
              go_wp2_with fail
              go_meet
              exact KR.out
        case rest =>
          have KZ : Hid _ := hcut
          have HH3 : Hid _ := holes_x (SpX.on SW6.out hcut)
          clear hcut
          go_wp2_with fail
          refine Calls.mono HH3.out ?_
          rintro r w7 ⟨v7, rfl, hv7⟩
          obtain ⟨ga, gcap, rfl, hE, -, k7⟩ := hv7.exts
          have HE7 : Hid _ := hE
          have K7 : Hid (Kept w6 w7) := KZ.out.trans' k7
          rw [hLl]
          clear hv7 hE k7
          go_upto_block 8 with fail
          go_cut [136, 14, 15] (fun _ _ _ wx => Kept w7 wx)
          case first =>
            clear HA HN K1 K2 S2 M2 HSC KC R1 K3 K4 S4 K04 RA KA RB0 RB RA2 KWC SWC RB5 EC EA KC5 KD6 KW6 SW6
            go_wp2_with fail
            go_loopw [136, 14, 15] (fun i _ _ wr => ∃ j : Nat, j ≤ K ∧ i = .int .i64 j ∧ Kept w7 wr) (fun i _ _ _ => K - (intOf i).toNat)
            case atStart => exact ⟨0, Nat.zero_le _, rfl, Same.refl _ _⟩
            case round =>
              obtain ⟨j, hj, rfl, kk⟩ := hrel
              have KR : Hid _ := kk
              by_cases hlt : j < K
              · have c1' : decide ((j : Int) < (K : Int)) = true := by simp only [decide_eq_true_eq]; omega
                have hlt2 : (j : Int) < (K : Int) := by omega
                have he : L[j]? = some ⟨2 * (j : Int), 1⟩ := by rw [EL.out, evs_get (by rw [← EK.out]; exact hlt)]; simp
                obtain ⟨b, off, rfl, x2, q0, q1⟩ := (ExtsAt.kept HE7.out kk (fun _ _ h => h)) j _ he
                clear kk he
                go_wp2_with fail
                go_roundw
                case rel => exact ⟨j + 1, by omega, by simp, KR.out.alloc _⟩
                case measure => simp only [intOf]; omega
              · have c1' : decide ((j : Int) < (K : Int)) = false := by simp only [decide_eq_false_iff_not]; omega
                clear kk
                go_wp2_with fail
                go_meet
                exact KR.out
          case rest =>
            have KF : Hid (Kept w6 wc) := K7.out.trans' hcut
            have kk : Kept w6 wc := KF.out
            obtain ⟨b, off, z1, z2, s0, -⟩ := (ExtsAt.kept EC6.out kk (fun _ _ h => h)) K ⟨-3, 0⟩ (by rw [List.getElem?_append_right (by rw [LA.out]; omega), LA.out, Nat.sub_self]; rfl)
            cases z1
            obtain ⟨b, off, t1, t2, t0, -⟩ := (ExtsAt.kept ED6.out kk (fun _ _ h => h)) K ⟨-4, 0⟩ (by rw [List.getElem?_append_right (by rw [LB.out]; omega), LB.out, Nat.sub_self]; rfl)
            cases t1
            rw [Nat.zero_add] at s0 t0
            have hlt2 : (K : Int) < (K : Int) + 2 := by omega
            clear kk hcut
            go_wp2_with fail
            go_ret
            exact ⟨rfl, KW6.out.trans' KF.out⟩
end Go.Proofs.Ytfllilgadphlcaa
