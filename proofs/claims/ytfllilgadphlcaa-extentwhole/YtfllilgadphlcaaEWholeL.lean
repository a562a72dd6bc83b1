/- What is proved: ExtentWhole answers true for every number of blocks, every list of counts in memory and every beginning. -/
import Derived.Test.YtfllilgadphlcaaEHolesL
import Derived.Test.YtfllilgadphlcaaECnt
import Derived.Deep.LoopGhost
namespace Go.Proofs.Ytfllilgadphlcaa
open Go.RowKit

set_option maxRecDepth 100000 in
theorem whole_no (N F : Int) (sa : Option Addr) (len sc : Nat) (w : World) (hN : N < 1 ∨ 4096 < N ∨ F < 0 ∨ N ≤ F) :
    Calls Try.prog 5 #[.int .i64 N, .slice sa len sc, .int .i64 F] w fun e w' => e = .returned (.bool true) ∧ Kept w w' := by
  have hnot : ∀ (x : Bool) (w : World), (Op.unary .not (.bool x)).run Try.prog w = .ok (.bool (!x)) w := fun _ _ => rfl
  have HA : Hid (∀ w', _) := fun w' => anchor_any w'
  by_cases h1 : N < 1
  · have h1' : decide (N < 1) = true := decide_eq_true h1
    clear hN
    go_enter Try.func5, Try.ntmps5
    go_wp2_with fail
    refine Calls.mono (HA.out _) ?_
    rintro e w1 ⟨rfl, k1⟩
    go_wp2_with fail
    go_ret
    exact ⟨rfl, k1⟩
  · have h1' : decide (N < 1) = false := decide_eq_false h1
    by_cases h2 : 4096 < N
    · have h2' : decide (4096 < N) = true := decide_eq_true h2
      clear hN
      go_enter Try.func5, Try.ntmps5
      go_wp2_with fail
      refine Calls.mono (HA.out _) ?_
      rintro e w1 ⟨rfl, k1⟩
      go_wp2_with fail
      go_ret
      exact ⟨rfl, k1⟩
    · have h2' : decide (4096 < N) = false := decide_eq_false h2
      by_cases h3 : F < 0
      · have h3' : decide (F < 0) = true := decide_eq_true h3
        clear hN
        go_enter Try.func5, Try.ntmps5
        go_wp2_with fail
        refine Calls.mono (HA.out _) ?_
        rintro e w1 ⟨rfl, k1⟩
        go_wp2_with fail
        go_ret
        exact ⟨rfl, k1⟩
      · have h3' : decide (F < 0) = false := decide_eq_false h3
        have h4 : N ≤ F := by omega
        have h4' : decide (N ≤ F) = true := decide_eq_true h4
        clear hN
        go_enter Try.func5, Try.ntmps5
        go_wp2_with fail
        refine Calls.mono (HA.out _) ?_
        rintro e w1 ⟨rfl, k1⟩
        go_wp2_with fail
        go_ret
        exact ⟨rfl, k1⟩

theorem mod_ne {N F j k : Nat} (hj : j < N) (hk : k < j) (hF : F < N) : (F + k) % N ≠ (F + j) % N := by
  intro e
  have h1 : (F + k) % N = if F + k < N then F + k else F + k - N := by
    split
    · exact Nat.mod_eq_of_lt (by assumption)
    · rw [Nat.mod_eq_sub_mod (by omega), Nat.mod_eq_of_lt (by omega)]
  have h2 : (F + j) % N = if F + j < N then F + j else F + j - N := by
    split
    · exact Nat.mod_eq_of_lt (by assumption)
    · rw [Nat.mod_eq_sub_mod (by omega), Nat.mod_eq_of_lt (by omega)]
  rw [h1, h2] at e
  split at e <;> split at e <;> omega

set_option maxRecDepth 100000 in
set_option maxHeartbeats 3200000 in
theorem whole_yes (N F : Nat) (sa : Option Addr) (sc : Nat) (ls : List Int) (w : World) (hN1 : 1 ≤ N) (hN : N ≤ 4096) (hF : F < N) (hs : IntsAt w sa ls) (hlen : ls.length ≤ 9223372036854775807) :
    Calls Try.prog 5 #[.int .i64 (N : Int), .slice sa ls.length sc, .int .i64 (F : Int)] w fun e w' => e = .returned (.bool true) ∧ Kept w w' := by
  have hnot : ∀ (x : Bool) (w : World), (Op.unary .not (.bool x)).run Try.prog w = .ok (.bool (!x)) w := fun _ _ => rfl
  have HA : Hid (∀ w', _) := fun w' => anchor_any w'
  have HN : Hid (∀ w', _) := fun w' => new_x N hN w'
  have HO : Hid _ := hs
  have d1 : decide ((N : Int) < 1) = false := decide_eq_false (by omega)
  have d2 : decide (4096 < (N : Int)) = false := decide_eq_false (by omega)
  have d3 : decide ((F : Int) < 0) = false := decide_eq_false (by omega)
  have d4 : decide ((N : Int) ≤ (F : Int)) = false := decide_eq_false (by omega)
  have d1' : ¬ ((N : Int) < 1) := by omega
  have d2' : ¬ (4096 < (N : Int)) := by omega
  have d4' : ¬ ((N : Int) ≤ (F : Int)) := by omega
  obtain ⟨m, em⟩ : ∃ m, m = ls.length := ⟨_, rfl⟩
  rw [← em] at hlen ⊢
  have EM : Hid _ := em
  clear em hs
  go_enter Try.func5, Try.ntmps5
  go_wp2_with fail
  refine Calls.mono (HA.out _) ?_
  rintro e w1 ⟨rfl, k1⟩
  have K1 : Hid _ := k1
  clear k1
  go_wp2_with fail
  refine Calls.mono (HN.out _) ?_
  rintro e w2 ⟨p, L0, rfl, hsp, hm0, k2⟩
  have K2 : Hid (Kept w w2) := K1.out.trans' k2
  have S2 : Hid (SpX (fun k => k < w.heap.size) w2 p N L0) := hsp.mono fun k _ h => Nat.lt_of_lt_of_le h K1.out.size
  clear hsp hm0 k2
  go_upto_block 0 with fail
  go_cut [46] (fun _ wx => ∃ L, SpX (fun k => k < w.heap.size) wx p N L ∧ Kept w wx)
  case first =>
    go_wp2_with fail
    go_loopw [46] (fun i wr => ∃ (j : Nat) (L : List Ex), j ≤ m ∧ i = .int .i64 j ∧ SpX (fun k => k < w.heap.size) wr p N L ∧ Kept w wr) (fun i _ => m - (intOf i).toNat)
    case atStart => exact ⟨0, L0, Nat.zero_le _, rfl, S2.out, K2.out⟩
    case round =>
      obtain ⟨j, L, hj, rfl, hsp, kk⟩ := hrel
      have KK : Hid _ := kk
      have HS : Hid _ := hsp
      by_cases hlt : j < m
      · have c1' : decide ((j : Int) < (m : Int)) = true := by simp only [decide_eq_true_eq]; omega
        have hlt2 : (j : Int) < (m : Int) := by omega
        obtain ⟨o, ho⟩ : ∃ o, ls[j]? = some o := ⟨_, List.getElem?_eq_getElem (by rw [← EM.out]; exact hlt)⟩
        obtain ⟨b, off, rfl, hb, q0⟩ := (IntsAt.on HO.out kk) j o ho
        have HC : Hid _ := alloc_x (fun k hk => Nat.lt_of_lt_of_le hk kk.size) hsp o
        clear kk ho hsp
        go_wp2_with fail
        refine Calls.mono HC.out ?_
        rintro r w3 ⟨f, n, e, L', rfl, ⟨hs3, k3⟩, -⟩
        have HS3 : Hid _ := hs3
        have K3 : Hid _ := kept_of KK.out k3 (fun _ h => h)
        clear hs3 k3
        go_wp2_with fail
        go_roundw
        case rel => exact ⟨j + 1, L', by omega, by simp, HS3.out, K3.out⟩
        case measure => simp only [intOf]; omega
      · have c1' : decide ((j : Int) < (m : Int)) = false := by simp only [decide_eq_false_iff_not]; omega
        clear kk hsp
        go_wp2_with fail
        go_meet
        exact ⟨L, HS.out, KK.out⟩
  case rest =>
    obtain ⟨L, hsp, kk⟩ := hcut
    have HS : Hid _ := hsp
    have KK : Hid _ := kk
    clear hsp kk
    go_upto_block 2 with fail
    go_cut [12] (fun _ wx => SpX (fun k => k < w.heap.size) wx p N [] ∧ Kept w wx)
    case first =>
      go_wp2_with fail
      go_loopg [12] (sum L).toNat (fun g _ wr => ∃ L', SpX (fun k => k < w.heap.size) wr p N L' ∧ g = (sum L').toNat ∧ Kept w wr)
      case atStart => exact ⟨L, HS.out, rfl, KK.out⟩
      case round =>
        obtain ⟨L', hsp, hg, kk⟩ := hrel
        have KR : Hid _ := kk
        have HSR : Hid _ := hsp
        have HGK : Hid _ := hg
        have HL : Hid _ := left_x hsp
        obtain ⟨S, eS⟩ : ∃ S, S = sum L' := ⟨_, rfl⟩
        rw [← eS] at HL
        have ES : Hid _ := eS
        clear hsp hg kk eS
        by_cases h0 : 0 < S
        · have h0' : decide (0 < S) = true := decide_eq_true h0
          go_wp2_with fail
          refine Calls.mono HL.out ?_
          rintro r w3 ⟨rfl, k3⟩
          have HC : Hid _ := alloc_x (fun k hk => Nat.lt_of_lt_of_le hk (Nat.le_trans KR.out.size k3.size)) (SpX.on HSR.out k3) 1
          have K3 : Hid _ := k3
          clear k3
          go_wp2_with fail
          refine Calls.mono HC.out ?_
          rintro r w4 ⟨f, n, e, L2, rfl, ⟨hs4, k4⟩, h⟩
          obtain ⟨rfl, hsum⟩ : e = 0 ∧ sum L' = sum L2 + 1 := by
            have hw := SpX.wf HSR.out
            rcases h with h | ⟨_, h, _⟩ | ⟨_, h1, h2, _, h3⟩
            · omega
            · rcases big_mem hw with rfl | ⟨g, hg, _⟩
              · have := ES.out; simp only [sum] at this; omega
              · have := h g hg
                have := hw.mem hg
                omega
            · obtain ⟨a1, a2, a3⟩ := h1.all hw (by omega)
              exact ⟨h2, sum_sub (x := ⟨f, 1⟩) hw hs4.wf a2 (by show (0 : Int) ≤ 1; omega) a3 a1 h3⟩
          have HS4 : Hid _ := hs4
          have K4 : Hid (Kept w w4) := kept_of (KR.out.trans' K3.out) k4 (fun _ h => h)
          have HSM : Hid _ := hsum
          have HNN : Hid _ := (sum_bounds hs4.wf).1
          clear h hs4 k4 hsum
          go_wp2_with fail
          go_roundg (sum L2).toNat
          case rel => exact ⟨L2, SpX.on HS4.out ((Same.refl _ _).alloc _), rfl, K4.out.alloc _⟩
          case measure =>
            have := HSM.out
            have := HGK.out
            have := HNN.out
            omega
        · have h0' : decide (0 < S) = false := decide_eq_false h0
          have HZ : Hid (L' = []) := sum_zero (SpX.wf HSR.out) (by rw [← ES.out]; omega)
          go_wp2_with fail
          refine Calls.mono HL.out ?_
          rintro r w3 ⟨rfl, k3⟩
          go_wp2_with fail
          go_meet
          refine ⟨?_, KR.out.trans' k3⟩
          have := SpX.on HSR.out k3
          rw [HZ.out] at this
          exact this
    case rest =>
      obtain ⟨hsp, kc⟩ := hcut
      have HL1 : Hid _ := largest_x hsp
      have HH1 : Hid (∀ W, Kept wc W → _) := fun W (k : Kept wc W) => holes_x (hsp.on k)
      have HSC : Hid _ := hsp
      have KC : Hid _ := kc
      have hb0 : big [] = 0 := rfl
      rw [hb0] at HL1
      clear hsp kc hb0
      go_wp2_with fail
      refine Calls.mono HL1.out ?_
      rintro r w3 ⟨rfl, k3⟩
      go_wp2_with fail
      refine Calls.mono (HH1.out _ k3) ?_
      rintro r w4 ⟨v, rfl, hv⟩
      obtain ⟨ga, gc, rfl, -, -, k4⟩ := hv.exts
      have K4 : Hid (Kept wc w4) := k3.trans' k4
      have hl0 : ([] : List Ex).length = 0 := rfl
      rw [hl0]
      clear hv k3 k4 hl0
      go_upto_block 4 with fail
      go_cut [13] (fun _ wx => SpX (fun k => k < w.heap.size) wx p N [⟨0, N⟩] ∧ Kept w wx)
      case first =>
        go_wp2_with fail
        go_loopw [13] (fun i wr => ∃ (j : Nat) (L' : List Ex), j ≤ N ∧ i = .int .i64 j ∧ SpX (fun k => k < w.heap.size) wr p N L' ∧ sum L' = j ∧ (∀ b, Mm b L' → ∃ k : Nat, k < j ∧ b = ((F + k) % N : Nat)) ∧ Kept w wr) (fun i _ => N - (intOf i).toNat)
        case atStart => exact ⟨0, [], Nat.zero_le _, rfl, SpX.on HSC.out K4.out, rfl, fun b hb => absurd hb (mm_nil b), KC.out.trans' K4.out⟩
        case round =>
          obtain ⟨j, L', hj, rfl, hsp, hsum, hmm, kk⟩ := hrel
          have KR : Hid _ := kk
          have HSR : Hid _ := hsp
          have HSM : Hid _ := hsum
          have HMM : Hid _ := hmm
          by_cases hlt : j < N
          · have c1' : decide ((j : Int) < (N : Int)) = true := by simp only [decide_eq_true_eq]; omega
            have hlt2 : (j : Int) < (N : Int) := by omega
            obtain ⟨B, eB⟩ : ∃ B, B = (F + j) % N := ⟨_, rfl⟩
            have hBN : B < N := by rw [eB]; exact Nat.mod_lt _ (by omega)
            have hrem : ((F : Int) + (j : Int)).tmod (N : Int) = (B : Int) := by rw [eB]; exact_mod_cast (Int.tmod_eq_emod_of_nonneg (a := ((F + j : Nat) : Int)) (b := (N : Int)) (by omega))
            have HC : Hid _ := free_x (fun k hk => Nat.lt_of_lt_of_le hk kk.size) hsp ⟨(B : Int), 1⟩ (by show (B : Int) ≤ _; omega)
            have HHS : Hid (Has N ⟨(B : Int), 1⟩) := ⟨Int.le_refl _, by show (0 : Int) ≤ B; omega, by show (1 : Int) ≤ N - B; omega⟩
            have HNF : Hid (NoneF ⟨(B : Int), 1⟩ L') := fun b b1 b2 hb => by
              have b1 : (B : Int) ≤ b := b1
              have b2 : b < (B : Int) + 1 := b2
              obtain ⟨k, hk, e⟩ := hmm b hb
              exact mod_ne hlt hk hF (by omega)
            have EB : Hid _ := eB
            unfold exV at HC
            clear kk hsp hsum hmm eB
            go_wp2_with fail
            refine Calls.mono HC.out ?_
            rintro r w5 ⟨z, L5, rfl, ⟨hs5, k5⟩, h5⟩
            obtain ⟨rfl, hm5⟩ : z = 0 ∧ ∀ b, Mm b L5 ↔ Mm b L' ∨ ((B : Int) ≤ b ∧ b < (B : Int) + 1) := by
              rcases h5 with ⟨h, _⟩ | ⟨_, h, _⟩ | ⟨_, _, h1, h2⟩
              · exact absurd HHS.out h
              · exact absurd HNF.out h
              · exact ⟨h1, h2⟩
            have hsum5 : sum L5 = (j : Int) + 1 := by
              rw [sum_add (x := ⟨(B : Int), 1⟩) (SpX.wf HSR.out) hs5.wf (by show (0 : Int) ≤ B; omega) (by show (0 : Int) ≤ 1; omega) (by show (B : Int) + 1 ≤ N; omega) HNF.out hm5, HSM.out]
            have HL5 : Hid _ := left_x hs5
            rw [hsum5] at HL5
            have HS5 : Hid _ := hs5
            have HSM5 : Hid _ := hsum5
            have HM5 : Hid _ := hm5
            have K5 : Hid (Kept w w5) := kept_of KR.out k5 (fun _ h => h)
            clear h5 hs5 k5 hm5 hsum5
            go_wp2_with fail
            refine Calls.mono HL5.out ?_
            rintro r w6 ⟨rfl, k6⟩
            go_wp2_with fail
            go_roundw
            case rel =>
              refine ⟨j + 1, L5, by omega, by simp, SpX.on HS5.out k6, by rw [HSM5.out]; simp, fun b hb => ?_, K5.out.trans' k6⟩
              rcases (HM5.out b).1 hb with h | h
              · obtain ⟨k, hk, e⟩ := HMM.out b h
                exact ⟨k, by omega, e⟩
              · exact ⟨j, by omega, by rw [← EB.out]; omega⟩
            case measure => simp only [intOf]; omega
          · have c1' : decide ((j : Int) < (N : Int)) = false := by simp only [decide_eq_false_iff_not]; omega
            obtain rfl : j = N := by omega
            have HF1 : Hid (L' = [⟨0, (j : Int)⟩]) := sum_full (SpX.wf HSR.out) hN1 HSM.out
            clear kk hsp hsum hmm
            go_wp2_with fail
            go_meet
            refine ⟨?_, KR.out⟩
            rw [← HF1.out]
            exact HSR.out
      case rest =>
        obtain ⟨hsp, kc⟩ := hcut
        have HH2 : Hid _ := holes_x hsp
        have HL2 : Hid (∀ W, Kept wc W → _) := fun W (k : Kept wc W) => largest_x (hsp.on k)
        have KC2 : Hid _ := kc
        have hb0 : big [⟨0, (N : Int)⟩] = N := by simp only [big]; omega
        rw [hb0] at HL2
        clear hsp kc hb0
        go_wp2_with fail
        refine Calls.mono HH2.out ?_
        rintro r w7 ⟨v, rfl, hv⟩
        obtain ⟨ga2, gc2, rfl, hE, -, k7⟩ := hv.exts
        obtain ⟨b, off, rfl, hbl, q0, q1⟩ := hE 0 ⟨0, N⟩ rfl
        have hl1 : ([⟨0, (N : Int)⟩] : List Ex).length = 1 := rfl
        rw [hl1]
        rw [Nat.zero_mul, Nat.add_zero] at q0 q1
        have K7 : Hid _ := k7
        clear hv hE hl1 k7
        go_wp2_with fail
        refine Calls.mono (HL2.out _ K7.out) ?_
        rintro r w8 ⟨rfl, k8⟩
        go_wp2_with fail
        go_ret
        exact ⟨by simp, (KC2.out.trans' K7.out).trans' k8⟩
end Go.Proofs.Ytfllilgadphlcaa
