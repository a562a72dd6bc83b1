/- What is proved: WireBack answers true for every list of numbers and every list of texts that are not too great together. -/
import Derived.Test.YtfedenfnkimngaaWBackM
namespace Go.Proofs.Ytfedenfnkimngaa
open Go.RowKit

set_option maxRecDepth 100000 in
set_option maxHeartbeats 6400000 in
theorem back_any (na : Option Addr) (nc : Nat) (ln : List Int) (ta : Option Addr) (tc : Nat) (lt : List ByteArray) (w : World) (hn : IntsAt w na ln) (ht : StrsAt w ta lt) (hb : ln.length + tsum lt ≤ 1048576) (htl : lt.length ≤ 1048576) :
    Calls Try.prog 5 #[.slice na ln.length nc, .slice ta lt.length tc] w fun e w' => e = .returned (.bool true) ∧ Kept w w' := by
  have hnot : ∀ (x : Bool) (w : World), (Op.unary .not (.bool x)).run Try.prog w = .ok (.bool (!x)) w := fun _ _ => rfl
  have HA : Hid _ := anchor_any w
  have HLN : Hid (∀ i, (encN (ln.take i)).length ≤ 8388608) := fun i => by
    have := encN_len (ln.take i)
    rw [List.length_take] at this
    omega
  have hlT := encT_len (l := lt) (by omega)
  have HLT : Hid (∀ i, (encT (lt.take i)).length ≤ 9437184) := fun i => by
    have e : encT lt = encT (lt.take i) ++ encT (lt.drop i) := by rw [← encT_append, List.take_append_drop]
    have := congrArg List.length e
    rw [List.length_append] at this
    omega
  have HSZ : Hid (∀ s, s ∈ lt → s.size ≤ 1048576) := fun s hs => by
    have := tsum_mem hs
    omega
  have H1 : Hid (∀ base W v l m, OwnB base W v l → l.length ≤ 17825792 → m ≤ 72057594037927935 → _) := fun base W v l m (o : OwnB base W v l) (hl : l.length ≤ 17825792) (hm : m ≤ 72057594037927935) => append_own o m (by omega) hm
  have H2 : Hid (∀ base W v l s, OwnB base W v l → l.length ≤ 17825792 → s ∈ lt → _) := fun base W v l s (o : OwnB base W v l) (hl : l.length ≤ 17825792) (hs : s ∈ lt) => appendText_own o s (by have := HSZ.out s hs; omega)
  have H3 : Hid (∀ base W v, OwnB base W v (encN ln ++ encT lt) → _) := fun base W v (o : OwnB base W v (encN ln ++ encT lt)) => open_own o ((byts_encN ln).append (byts_encT lt)) (by have := encN_len ln; rw [List.length_append]; omega)
  obtain ⟨N, eN⟩ : ∃ N, N = ln.length := ⟨_, rfl⟩
  obtain ⟨M, eM⟩ : ∃ M, M = lt.length := ⟨_, rfl⟩
  rw [← eN] at hb ⊢
  rw [← eM] at htl ⊢
  have EN : Hid _ := eN
  have EM : Hid _ := eM
  have HN : Hid _ := hn
  have HT : Hid _ := ht
  have hN : (N : Int) ≤ 1048576 := by omega
  have hM : (M : Int) ≤ 1048576 := by omega
  have hss := str_same
  have n51 : ((0 : Int) != 0) = false := by simp
  clear eN eM hn ht hb htl hlT
  go_enter Try.func5, Try.ntmps5
  go_wp2_with fail
  refine Calls.mono HA.out ?_
  rintro e w1 ⟨rfl, k1⟩
  have K1 : Hid _ := k1
  clear k1
  go_wp2_with fail
  go_loopw [5, 6, 24] (fun v e i wr => ∃ j : Nat, j ≤ N ∧ i = .int .i64 j ∧ OwnB w.heap.size wr v (encN (ln.take j)) ∧ Kept w wr) (fun _ _ i _ => N - (intOf i).toNat)
  case atStart => exact ⟨0, Nat.zero_le _, rfl, OwnB.nil _ _, K1.out⟩
  case round =>
    obtain ⟨j, hj, rfl, ho, hk⟩ := hrel
    have HO : Hid _ := ho
    have HK : Hid _ := hk
    clear ho hk
    by_cases hlt : j < N
    · have c1 : decide ((j : Int) < (N : Int)) = true := decide_eq_true (by omega)
      have hlt2 : (j : Int) < (N : Int) := by omega
      obtain ⟨x, hx⟩ : ∃ x, ln[j]? = some x := ⟨_, List.getElem?_eq_getElem (by rw [← EN.out]; exact hlt)⟩
      obtain ⟨b, off, rfl, -, q0⟩ := IntsAt.on HN.out HK.out j x hx
      have HX : Hid _ := encN_next hx
      by_cases hbad : x < 0 ∨ 72057594037927935 < x
      · have he : enc1 x = [] := if_pos hbad
        by_cases h0 : x < 0
        · have d0 : decide (x < 0) = true := decide_eq_true h0
          clear hbad hx
          go_wp2_with fail
          go_roundw
          case rel =>
            refine ⟨j + 1, hlt, by simp, ?_, HK.out⟩
            rw [HX.out, he, List.append_nil]
            exact HO.out
          case measure => simp only [intOf]; omega
        · have d0 : decide (x < 0) = false := decide_eq_false h0
          have h1 : 72057594037927935 < x := by omega
          have d1 : decide (72057594037927935 < x) = true := decide_eq_true h1
          clear hbad hx
          go_wp2_with fail
          go_roundw
          case rel =>
            refine ⟨j + 1, hlt, by simp, ?_, HK.out⟩
            rw [HX.out, he, List.append_nil]
            exact HO.out
          case measure => simp only [intOf]; omega
      · have he : enc1 x = form x.toNat := if_neg hbad
        have d0 : decide (x < 0) = false := decide_eq_false (by omega)
        have d1 : decide (72057594037927935 < x) = false := decide_eq_false (by omega)
        have d0' : ¬ x < 0 := by omega
        have d1' : ¬ 72057594037927935 < x := by omega
        obtain ⟨m, rfl⟩ := Int.eq_ofNat_of_zero_le (show 0 ≤ x by omega)
        have HAP : Hid _ := H1.out _ _ _ _ m HO.out (by have := HLN.out j; omega) (by omega)
        rw [Int.toNat_natCast] at he
        have HE : Hid _ := he
        clear hbad hx he
        go_wp2_with fail
        refine Calls.mono HAP.out ?_
        rintro e w2 ⟨v2, rfl, o2, k2⟩
        have O2 : Hid (OwnB w.heap.size w2 v2 (encN (ln.take (j + 1)))) := by
          have := OwnB.lower o2 HK.out.size
          rw [HX.out, HE.out]
          exact this
        have K2 : Hid (Kept w w2) := Same.trans' HK.out k2
        clear o2 k2
        go_wp2_with fail
        go_roundw
        case rel => exact ⟨j + 1, hlt, by simp, O2.out, K2.out⟩
        case measure => simp only [intOf]; omega
    · have c1 : decide ((j : Int) < (N : Int)) = false := decide_eq_false (by omega)
      have O0 : Hid (OwnB w.heap.size wr u5 (encN ln)) := by
        have := HO.out
        rw [List.take_of_length_le (by rw [← EN.out]; omega)] at this
        exact this
      clear HO
      go_wp2_with fail
      go_loopw [5, 6, 45] (fun v e i wr => ∃ j : Nat, j ≤ M ∧ i = .int .i64 j ∧ OwnB w.heap.size wr v (encN ln ++ encT (lt.take j)) ∧ Kept w wr) (fun _ _ i _ => M - (intOf i).toNat)
      case atStart =>
        refine ⟨0, Nat.zero_le _, rfl, ?_, HK.out⟩
        rw [List.take_zero, encT, List.append_nil]
        exact O0.out
      case round =>
        clear HK O0 hlt c1 hj
        obtain ⟨j, hj, rfl, ho, hk⟩ := hrel
        have HO : Hid _ := ho
        have HK : Hid _ := hk
        clear ho hk
        by_cases hlt : j < M
        · have c1 : decide ((j : Int) < (M : Int)) = true := decide_eq_true (by omega)
          have hlt2 : (j : Int) < (M : Int) := by omega
          obtain ⟨x, hx⟩ : ∃ x, lt[j]? = some x := ⟨_, List.getElem?_eq_getElem (by rw [← EM.out]; exact hlt)⟩
          obtain ⟨b, off, rfl, -, q0⟩ := StrsAt.on HT.out HK.out j x hx
          have HX : Hid _ := encT_next hx
          have HAP : Hid _ := H2.out _ _ _ _ x HO.out (by have := HLN.out N; rw [List.take_of_length_le (by rw [← EN.out]; exact Nat.le_refl _)] at this; have := HLT.out j; rw [List.length_append]; omega) (List.mem_of_getElem? hx)
          clear hx
          go_wp2_with fail
          refine Calls.mono HAP.out ?_
          rintro e w2 ⟨v2, rfl, o2, k2⟩
          have O2 : Hid (OwnB w.heap.size w2 v2 (encN ln ++ encT (lt.take (j + 1)))) := by
            have := OwnB.lower o2 HK.out.size
            rw [HX.out, encS, ← List.append_assoc, ← List.append_assoc]
            exact this
          have K2 : Hid (Kept w w2) := Same.trans' HK.out k2
          clear o2 k2
          go_wp2_with fail
          go_roundw
          case rel => exact ⟨j + 1, hlt, by simp, O2.out, K2.out⟩
          case measure => simp only [intOf]; omega
        · have c1 : decide ((j : Int) < (M : Int)) = false := decide_eq_false (by omega)
          have O0 : Hid (OwnB w.heap.size wr u5 (encN ln ++ encT lt)) := by
            have := HO.out
            rw [List.take_of_length_le (by rw [← EM.out]; omega)] at this
            exact this
          have HOP : Hid _ := H3.out _ _ _ O0.out
          obtain ⟨a5, c5, e5, -, -, -, -, -⟩ := OwnB.bytes O0.out
          subst e5
          obtain ⟨Z, eZ⟩ : ∃ Z, Z = (encN ln ++ encT lt).length := ⟨_, rfl⟩
          rw [← eZ] at HOP ⊢
          have EZ : Hid _ := eZ
          have hZ : (Z : Int) ≤ 17825792 := by
            have h1 := HLN.out N
            rw [List.take_of_length_le (by rw [← EN.out]; exact Nat.le_refl _)] at h1
            have h2 := HLT.out M
            rw [List.take_of_length_le (by rw [← EM.out]; exact Nat.le_refl _)] at h2
            rw [eZ, List.length_append]
            omega
          clear HO O0 eZ
          go_wp2_with fail
          refine Calls.mono HOP.out ?_
          rintro e w3 ⟨v3, rfl, hc3, k3⟩
          obtain ⟨cb, rfl, u3⟩ := CuN.of hc3
          have K3 : Hid (Kept w w3) := Same.trans' HK.out k3
          obtain ⟨B, HBS, U3⟩ : ∃ B, Hid (w.heap.size ≤ B) ∧ Hid (CuN B w3 cb (encN ln ++ encT lt) 0 0) := ⟨_, HK.out.size, u3⟩
          clear hc3 k3 u3 HOP HK hlt c1 hj
          go_wp2_with fail
          go_loopw [64] (fun i wr => ∃ j : Nat, j ≤ N ∧ i = .int .i64 j ∧ CuN B wr cb (encN ln ++ encT lt) (encN (ln.take j)).length 0 ∧ Kept w wr) (fun i _ => N - (intOf i).toNat)
          case atStart => exact ⟨0, Nat.zero_le _, rfl, U3.out, K3.out⟩
          case round =>
            clear U3 K3
            obtain ⟨j, hj, rfl, uc, hk⟩ := hrel
            have UC : Hid _ := uc
            have HK : Hid _ := hk
            clear uc hk
            by_cases hlt : j < N
            · have c1 : decide ((j : Int) < (N : Int)) = true := decide_eq_true (by omega)
              have hlt2 : (j : Int) < (N : Int) := by omega
              obtain ⟨x, hx⟩ : ∃ x, ln[j]? = some x := ⟨_, List.getElem?_eq_getElem (by rw [← EN.out]; exact hlt)⟩
              obtain ⟨b, off, rfl, -, q0⟩ := IntsAt.on HN.out HK.out j x hx
              have HX : Hid _ := encN_next hx
              by_cases hbad : x < 0 ∨ 72057594037927935 < x
              · have he : enc1 x = [] := if_pos hbad
                have HE : Hid _ := he
                by_cases h0 : x < 0
                · have d0 : decide (x < 0) = true := decide_eq_true h0
                  clear hbad hx he
                  go_wp2_with fail
                  go_roundw
                  case rel =>
                    refine ⟨j + 1, hlt, by simp, ?_, HK.out⟩
                    rw [HX.out, HE.out, List.append_nil]
                    exact UC.out
                  case measure => simp only [intOf]; omega
                · have d0 : decide (x < 0) = false := decide_eq_false h0
                  have h1 : 72057594037927935 < x := by omega
                  have d1 : decide (72057594037927935 < x) = true := decide_eq_true h1
                  clear hbad hx he
                  go_wp2_with fail
                  go_roundw
                  case rel =>
                    refine ⟨j + 1, hlt, by simp, ?_, HK.out⟩
                    rw [HX.out, HE.out, List.append_nil]
                    exact UC.out
                  case measure => simp only [intOf]; omega
              · have d0 : decide (x < 0) = false := decide_eq_false (by omega)
                have d1 : decide (72057594037927935 < x) = false := decide_eq_false (by omega)
                have d0' : ¬ x < 0 := by omega
                have d1' : ¬ 72057594037927935 < x := by omega
                have hrd := read_N (A := encN ln ++ encT lt) (pl := (encN (ln.take j)).length) (rest := encN (ln.drop (j + 1)) ++ encT lt) (x := x) (by rw [ahead_N, drop_next hx, encN, List.append_assoc]) hbad
                have HNM : Hid _ := CuN.number UC.out x
                rw [hrd] at HNM
                have nx : (x != x) = false := by simp
                have HPL : Hid ((encN (ln.take j)).length + (enc1 x).length = (encN (ln.take (j + 1))).length) := by rw [HX.out, List.length_append]; exact rfl
                clear hbad hx hrd
                go_wp2_with fail
                refine Calls.mono HNM.out ?_
                rintro e w4 ⟨rfl, u4, s4⟩
                have K4 : Hid (Kept w w4) := CuN.keeps UC.out HBS.out HK.out s4
                have U4 : Hid (CuN B w4 cb (encN ln ++ encT lt) (encN (ln.take (j + 1))).length 0) := by rw [← HPL.out]; exact u4
                clear u4 s4
                go_wp2_with fail
                go_roundw
                case rel => exact ⟨j + 1, hlt, by simp, U4.out, K4.out⟩
                case measure => simp only [intOf]; omega
            · have c1 : decide ((j : Int) < (N : Int)) = false := decide_eq_false (by omega)
              have U0 : Hid (CuN B wr cb (encN ln ++ encT lt) (encN ln).length 0) := by
                have := UC.out
                rw [List.take_of_length_le (by rw [← EN.out]; omega)] at this
                exact this
              clear UC
              go_wp2_with fail
              go_loopw [90] (fun i wr => ∃ j : Nat, j ≤ M ∧ i = .int .i64 j ∧ CuN B wr cb (encN ln ++ encT lt) ((encN ln).length + (encT (lt.take j)).length) 0 ∧ Kept w wr) (fun i _ => M - (intOf i).toNat)
              case atStart => exact ⟨0, Nat.zero_le _, rfl, U0.out, HK.out⟩
              case round =>
                clear HK U0 hlt c1 hj
                obtain ⟨j, hj, rfl, uc, hk⟩ := hrel
                have UC : Hid _ := uc
                have HK : Hid _ := hk
                clear uc hk
                by_cases hlt : j < M
                · have c1 : decide ((j : Int) < (M : Int)) = true := decide_eq_true (by omega)
                  have hlt2 : (j : Int) < (M : Int) := by omega
                  obtain ⟨x, hx⟩ : ∃ x, lt[j]? = some x := ⟨_, List.getElem?_eq_getElem (by rw [← EM.out]; exact hlt)⟩
                  obtain ⟨b, off, rfl, -, q0⟩ := StrsAt.on HT.out HK.out j x hx
                  have hxs := HSZ.out x (List.mem_of_getElem? hx)
                  have hrd := read_T (A := encN ln ++ encT lt) (pl := (encN ln).length + (encT (lt.take j)).length) (rest := encT (lt.drop (j + 1))) (s := x) (by rw [ahead_T, drop_next hx, encT]) (by
                    have e : encT lt = encT (lt.take j) ++ encT (lt.drop j) := by rw [← encT_append, List.take_append_drop]
                    have := congrArg List.length e
                    rw [List.length_append] at this ⊢
                    omega) (by omega)
                  have HTX : Hid _ := CuN.text UC.out (x.size : Int) (x.size : Int)
                  rw [hrd, strOf_nums] at HTX
                  have HPL : Hid ((encN ln).length + (encT (lt.take j)).length + (encS x).length = (encN ln).length + (encT (lt.take (j + 1))).length) := by rw [encT_next hx, List.length_append, Nat.add_assoc]; exact rfl
                  clear hx hrd
                  go_wp2_with fail
                  refine Calls.mono HTX.out ?_
                  rintro e w4 ⟨rfl, u4, s4⟩
                  have K4 : Hid (Kept w w4) := CuN.keeps UC.out HBS.out HK.out s4
                  have U4 : Hid (CuN B w4 cb (encN ln ++ encT lt) ((encN ln).length + (encT (lt.take (j + 1))).length) 0) := by rw [← HPL.out]; exact u4
                  clear u4 s4
                  go_wp2_with fail
                  go_roundw
                  case rel => exact ⟨j + 1, hlt, by simp, U4.out, K4.out⟩
                  case measure => simp only [intOf]; omega
                · have c1 : decide ((j : Int) < (M : Int)) = false := decide_eq_false (by omega)
                  have U0 : Hid (CuN B wr cb (encN ln ++ encT lt) Z 0) := by
                    have := UC.out
                    rw [List.take_of_length_le (by rw [← EM.out]; omega), ← List.length_append, ← EZ.out] at this
                    exact this
                  have HLF : Hid _ := CuN.left U0.out
                  rw [← EZ.out, Nat.sub_self] at HLF
                  have HOF : Hid (∀ W, Kept wr W → _) := fun W (k : Kept wr W) => CuN.offset (CuN.on U0.out k)
                  have HFT : Hid (∀ W, Kept wr W → _) := fun W (k : Kept wr W) => CuN.fault (CuN.on U0.out k)
                  have zz : ((Z : Int) == (Z : Int)) = true := by simp
                  clear UC
                  go_wp2_with fail
                  refine Calls.mono HLF.out ?_
                  rintro e w5 ⟨rfl, k5⟩
                  have K5 : Hid _ := k5
                  clear k5
                  go_wp2_with fail
                  refine Calls.mono (HOF.out _ K5.out) ?_
                  rintro e w6 ⟨rfl, rfl⟩
                  go_wp2_with fail
                  refine Calls.mono (HFT.out _ K5.out) ?_
                  rintro e w7 ⟨rfl, rfl⟩
                  go_wp2_with fail
                  go_ret
                  exact ⟨rfl, Same.trans' HK.out K5.out⟩
end Go.Proofs.Ytfedenfnkimngaa
