/- What is proved: the law StreamInput returns true and turns nothing that was there; the bounds that a machine's memory sets. -/
import Derived.Test.YtepdnmjolhfboaaSInpA
namespace Go.Proofs.Ytepdnmjolhfboaa
open Go.RowKit

theorem field_cnt0 (a b c d : Value) (W : World) : (Instr.field 49 (.agg #[a, b, c, d]) 0).run Try.prog W = .ok a W := by kernel_rfl
theorem field_cnt1 (a b c d : Value) (W : World) : (Instr.field 49 (.agg #[a, b, c, d]) 1).run Try.prog W = .ok b W := by kernel_rfl
set_option maxRecDepth 100000 in
set_option maxHeartbeats 3200000 in
theorem sinput_go (w : World) (oa : Option Addr) (c : Nat) (l : List Int) (hb : ArgB w oa c l) (B : Nat) (hB1 : 16 ≤ B) (hB2 : B ≤ 1024) (hl : l.length ≤ 4194304) (ob : Option Addr) (cb : Nat) (q : List Int) (hq : NumsAt w ob q) (hql : q.length ≤ 140737488351232) :
    Calls Try.prog 4 #[.slice oa l.length c, .int .i64 (B : Int), .slice ob q.length cb] w fun e w' => e = .returned (.bool true) ∧ Kept w w' := by
  have HAN : Hid _ := anchor_any8 w
  have hnot : ∀ (x : Bool) (w : World), (Op.unary .not (.bool x)).run Try.prog w = .ok (.bool (!x)) w := fun _ _ => rfl
  have t1 : decide ((B : Int) < 16) = false := by simp; omega
  have t1' : ¬ ((B : Int) < 16) := by omega
  have t2 : decide ((B : Int) > 1024) = false := by simp; omega
  have t2' : ¬ ((B : Int) > 1024) := by omega
  obtain ⟨n, en⟩ : ∃ n, n = l.length := ⟨_, rfl⟩
  have t3 : decide ((n : Int) > 4194304) = false := by simp; omega
  have t3' : ¬ ((n : Int) > 4194304) := by omega
  have HAB : Hid _ := And.intro hb hq
  have EN : Hid _ := en
  obtain ⟨Q, eQ⟩ : ∃ Q, Q = q.length := ⟨_, rfl⟩
  have EQ : Hid _ := eQ
  rw [← en, ← eQ]
  rw [← eQ] at hql
  clear hb hq en eQ
  go_enter Try.func4, Try.ntmps4
  go_wp2_with fail
  refine Calls.mono HAN.out ?_
  rintro x w1 ⟨rfl, k1⟩
  have hb1 := HAB.out.1.data.kept k1 (fun _ _ h => h)
  have HCL : Hid _ := clone_run (c := c) hb1 HAB.out.1.nil (by have := HAB.out.1.le; omega)
  rw [← EN.out] at HCL
  have K1 : Hid _ := k1
  clear k1 hb1 HAN
  go_wp2_with (at_builtin; refine wpList_app rfl (.tmp 36) (.tmp 37) 22 rfl _ _ rfl rfl _ HCL.out ?_; intro v' w2 hR; obtain ⟨ia, ic, rfl, b2, c2, nil2, nw2, k2⟩ := hR; have HNW : Hid (Calls Try.prog 13 #[.agg #[.int .i64 (B : Int), .int .i64 0], .slice ia l.length ic, .slice none 0 0, .slice none 0 0] w2 fun e w' => ∃ p, e = .returned (.tuple #[.pointer (some ⟨p.db, 0, none⟩), .int .i64 0]) ∧ Dv w' (M.made B 0 l [] []) p ∧ (∀ k, Foot (M.made B 0 l [] []) p k → w2.heap.size ≤ k) ∧ Kept w2 w') := new_yes B 0 ia none none ic 0 0 l [] [] w2 b2 (BytesAt.nil _ _) (FaultsAt.nil _ _) nil2 (fun _ => ⟨rfl, rfl⟩) (by unfold chk okG; simp; omega); have K2 : Hid _ := k2; clear b2 c2 nil2 nw2 k2)
  refine Calls.mono HNW.out ?_
  rintro x w3 ⟨p, rfl, h3, hf3, k3⟩
  have HIN : Hid _ := sinput_any (o := tagD p) 3 h3
  have H3 : Hid _ := And.intro h3 (And.intro hf3 k3)
  clear h3 hf3 k3 HNW HCL
  go_wp2_with fail
  refine Calls.mono HIN.out ?_
  rintro x w4 ⟨rb, o4, rfl, -, st4, hr4, hi4⟩
  obtain ⟨h3, hf3, k3⟩ := H3.out
  have kW3 : Kept w w3 := (K1.out.trans' K2.out).trans' k3
  have hz4 : ∀ k, k < w.heap.size → o4 k = 0 := fun k hk => by
    have a1 := K1.out.size
    have a2 := K2.out.size
    have a3 := k3.size
    rw [st4.tag k (by omega)]
    exact tagD_old hf3 (by omega)
  have HST : Hid (InL w B l p rb (.slice none 0 0) w4 0 0) := InL.start ((tagD_dv h3).on st4 (fun h => h) (fun h => h)) hr4 hi4 (kept_of kW3 st4 fun k hk h => h) hz4
  clear h3 hf3 k3 kW3 hz4 st4 hr4 hi4 H3 HIN K1 K2
  go_wp2_with fail
  go_loopw [10, 54] (fun av i wr => ∃ (j c0 : Nat), j ≤ Q ∧ i = .int .i64 j ∧ c0 ≤ l.length ∧ InL w B l p rb av wr c0 c0) (fun _ i _ => Q - (intOf i).toNat)
  case atStart => exact ⟨0, 0, Nat.zero_le _, rfl, Nat.zero_le _, HST.out⟩
  case round =>
    obtain ⟨j, c0, hj, rfl, hc0, hIL⟩ := hrel
    obtain ⟨aa, ac, rfl, -⟩ := hIL.row hc0
    by_cases hjq : j < Q
    · have hjq2 : (j : Int) < (Q : Int) := by omega
      obtain ⟨x, hx⟩ : ∃ x, q[j]? = some x := ⟨_, List.getElem?_eq_getElem (by rw [← EQ.out]; exact hjq)⟩
      obtain ⟨nb, off, eo, hnb, hcell⟩ := HAB.out.2 j x hx
      have hc : wr.cell? ⟨nb, off + j, none⟩ = some (.int .i64 x) := (hIL.kept.cell (p := ⟨nb, off + j, none⟩) hnb (fun h => h)).trans hcell
      have hlb : nb < wr.heap.size := Nat.lt_of_lt_of_le hnb hIL.kept.size
      subst eo
      by_cases hbad : x < 0 ∨ 65536 < x
      · have HR : Hid _ := hIL.ask x hbad
        have HG : Hid _ := hIL
        have d3 : decide (x < 0) = true ∨ (decide (x < 0) = false ∧ decide (x > 65536) = true) := by simp only [decide_eq_true_eq, decide_eq_false_iff_not]; omega
        clear hIL hx hcell hbad
        rcases d3 with d3 | ⟨d3, d4⟩
        all_goals
          go_wp2_with fail
          refine Calls.mono HR.out ?_
          rintro x2 w5 ⟨rfl, hI5⟩
          have HAPP : Hid (∀ ty, ∃ v' w3, (Builtin.append_ #[22, 22] ty #[.slice aa c0 ac, .slice none 0 0]).run Try.prog w5 = .ok v' w3 ∧ InL w B l p rb v' w3 (c0 + 0) (c0 + 0)) := fun ty => InL.app (k := 0) hI5 (by omega) hl rfl (wv := 0) (by rw [List.take_zero]; exact World.ownsRow_nil w5 0 5 1) ty
          clear hI5 HR HG
          go_wp2_with (at_builtin; refine wpList_app rfl (.tmp 73) (.tmp 74) 22 rfl (.slice aa c0 ac) (.slice none 0 0) rfl rfl _ HAPP.out ?_; intro v' w6 hI6; obtain ⟨a6, c6, rfl, -⟩ := hI6.row (by omega); have HT : Hid _ := hI6.tells; have HI6 : Hid _ := hI6; clear hI6)
          refine Calls.mono HT.out.1 ?_
          rintro x2 w6' ⟨rfl, e6⟩
          subst w6'
          go_wp2_with fail
          refine Calls.mono HT.out.2 ?_
          rintro x2 w6' ⟨rfl, e6⟩
          subst w6'
          have hsub : (n : Int) - ((c0 : Int)) = ((l.length - (c0 + 0) : Nat) : Int) := by have := EN.out; omega
          have hsub2 : ((l.length - (c0 + 0) : Nat) : Int) = (n : Int) - ((c0 : Int)) := by have := EN.out; omega
          rw [hsub2]
          go_wp2_with fail
          go_roundw
          case rel => exact ⟨j + 1, c0, hjq, by rw [Int.natCast_add]; rfl, hc0, HI6.out⟩
          case measure => simp only [intOf]; omega
      · obtain ⟨m, rfl⟩ := Int.eq_ofNat_of_zero_le (show 0 ≤ x by omega)
        have HR := hIL.read hB1 hl m (by omega)
        obtain ⟨k, ek⟩ : ∃ k, k = min m (l.length - c0) := ⟨_, rfl⟩
        have hkl : c0 + k ≤ l.length := by omega
        rw [← ek] at HR
        have HR' : Hid _ := HR
        have d3 : decide ((m : Int) < 0) = false := by simp
        have d4 : decide ((m : Int) > 65536) = false := by simp; omega
        have d4' : ¬ ((m : Int) > 65536) := by omega
        clear hIL hx hcell hbad HR ek
        go_wp2_with fail
        refine Calls.mono HR'.out ?_
        rintro x2 w5 ⟨v, rfl, hv, hI5⟩
        have hlk : ((l.drop c0).take k).length = k := by rw [List.length_take, List.length_drop]; omega
        obtain ⟨va, vc, rfl, -⟩ := BytesAt.of_row hv
        rw [hlk] at hv ⊢
        have HAPP : Hid (∀ ty, ∃ v' w3, (Builtin.append_ #[22, 22] ty #[.slice aa c0 ac, .slice va k vc]).run Try.prog w5 = .ok v' w3 ∧ InL w B l p rb v' w3 (c0 + k) (c0 + k)) := fun ty => InL.app hI5 hkl hl rfl hv ty
        clear hI5 HR' hv hlk
        go_wp2_with (at_builtin; refine wpList_app rfl (.tmp 73) (.tmp 74) 22 rfl (.slice aa c0 ac) (.slice va k vc) rfl rfl _ HAPP.out ?_; intro v' w6 hI6; obtain ⟨a6, c6, rfl, -⟩ := hI6.row hkl; have HT : Hid _ := hI6.tells; have HI6 : Hid _ := hI6; clear hI6)
        refine Calls.mono HT.out.1 ?_
        rintro x2 w6' ⟨rfl, e6⟩
        subst w6'
        go_wp2_with fail
        refine Calls.mono HT.out.2 ?_
        rintro x2 w6' ⟨rfl, e6⟩
        subst w6'
        have hsub2 : ((l.length - (c0 + k) : Nat) : Int) = (n : Int) - (((c0 + k : Nat)) : Int) := by have := EN.out; omega
        rw [hsub2]
        go_wp2_with fail
        go_roundw
        case rel => exact ⟨j + 1, c0 + k, hjq, by rw [Int.natCast_add]; rfl, hkl, HI6.out⟩
        case measure => simp only [intOf]; omega
    · have HIL : Hid _ := hIL
      clear hIL HST
      go_wp2_with fail
      go_loopw [10, 15] (fun av i wr => ∃ (k c0 : Nat), i = .int .i64 k ∧ k ≤ c0 ∧ c0 ≤ l.length ∧ InL w B l p rb av wr c0 c0) (fun av _ _ => l.length - slen av)
      case atStart => exact ⟨0, c0, rfl, Nat.zero_le _, hc0, HIL.out⟩
      case round =>
        clear HIL hc0 hj hjq
        obtain ⟨k2, c2, rfl, hk2, hc2, hIL⟩ := hrel
        obtain ⟨aa2, ac2, rfl, hab⟩ := hIL.row hc2
        have HT : Hid _ := hIL.tells
        obtain ⟨lf, elf⟩ : ∃ lf, lf = l.length - c2 := ⟨_, rfl⟩
        rw [← elf] at HT
        by_cases hlt : c2 < l.length
        · have hlf : decide ((lf : Int) > 0) = true := by simp; omega
          have hlf' : (lf : Int) > 0 := by omega
          have hkn : decide ((k2 : Int) ≤ (n : Int)) = true := by have := EN.out; simp; omega
          have hkn' : (k2 : Int) ≤ (n : Int) := by have := EN.out; omega
          have HR := hIL.read hB1 hl 16 (by omega)
          obtain ⟨k, ek⟩ : ∃ k, k = min 16 (l.length - c2) := ⟨_, rfl⟩
          have hkl : c2 + k ≤ l.length := by omega
          have hk0 : 0 < k := by omega
          rw [← ek] at HR
          have HR' : Hid _ := HR
          have hk0' : ((k : Int) == 0) = false := by simp; omega
          have hk0n : ¬ ((k : Int) = 0) := by omega
          clear hIL HR ek elf hab
          go_wp2_with fail
          refine Calls.mono HT.out.2 ?_
          rintro x2 w6' ⟨rfl, e6⟩
          subst w6'
          go_wp2_with fail
          refine Calls.mono HR'.out ?_
          rintro x2 w5 ⟨v, rfl, hv, hI5⟩
          have hlk : ((l.drop c2).take k).length = k := by rw [List.length_take, List.length_drop]; omega
          obtain ⟨va, vc, rfl, -⟩ := BytesAt.of_row hv
          rw [hlk] at hv ⊢
          have HAPP : Hid (∀ ty, ∃ v' w3, (Builtin.append_ #[22, 22] ty #[.slice aa2 c2 ac2, .slice va k vc]).run Try.prog w5 = .ok v' w3 ∧ InL w B l p rb v' w3 (c2 + k) (c2 + k)) := fun ty => InL.app hI5 hkl hl rfl hv ty
          clear hI5 HR' hv hlk HT
          go_wp2_with (at_builtin; refine wpList_app rfl (.tmp 115) (.tmp 116) 22 rfl (.slice aa2 c2 ac2) (.slice va k vc) rfl rfl _ HAPP.out ?_; intro v' w6 hI6; obtain ⟨a6, c6, rfl, -⟩ := hI6.row hkl; have HI6 : Hid _ := hI6; clear hI6)
          go_roundw
          case rel => exact ⟨k2 + 1, c2 + k, by rw [Int.natCast_add]; rfl, by omega, hkl, HI6.out⟩
          case measure => simp only [slen]; omega
        · obtain rfl : c2 = l.length := by omega
          obtain rfl : lf = 0 := by omega
          have HR := hIL.read hB1 hl 5 (by omega)
          rw [Nat.sub_self, Nat.min_zero, Nat.add_zero] at HR
          have HR' : Hid _ := HR
          clear hIL HR elf hlt hk2 hc2 hab
          go_wp2_with fail
          refine Calls.mono HT.out.2 ?_
          rintro x2 w6' ⟨rfl, e6⟩
          subst w6'
          go_wp2_with fail
          refine Calls.mono HR'.out ?_
          rintro x2 w5 ⟨v, rfl, hv, hI5⟩
          obtain ⟨va, vc, rfl, -⟩ := BytesAt.of_row hv
          obtain ⟨a7, c7, e7, hb7⟩ := hI5.row (Nat.le_refl _)
          simp only [Value.slice.injEq, true_and] at e7
          obtain ⟨rfl, rfl⟩ := e7
          rw [List.take_length] at hb7
          have HSM := same_true w5 aa2 oa ac2 c l hb7 (HAB.out.1.data.kept hI5.kept (fun _ _ h => h)) (by omega)
          obtain ⟨cT, cW, HCN, HBK⟩ := hI5.counts (by omega)
          have HCNall : Hid (∀ W, Kept w5 W → ∃ cT cW : Nat, Calls Try.prog 19 #[.pointer (some ⟨p.db, 0, none⟩)] W (fun x w' => x = .returned (.agg #[.int .i64 (nblk l.length B : Nat), .int .i64 0, .int .i64 cW, .int .i64 cT]) ∧ Kept W w') ∧ Calls Try.prog 20 #[.pointer (some ⟨p.db, 0, none⟩)] W (fun x w' => x = .returned (.int .i64 (nblk l.length B : Nat)) ∧ Kept W w')) := fun W k => (hI5.on k).counts (by omega)
          obtain ⟨NB, eNB⟩ : ∃ NB, NB = nblk l.length B := ⟨_, rfl⟩
          rw [← eNB] at HCN HBK HCNall
          have HSM' : Hid _ := HSM
          have HCN' : Hid _ := HCN
          have KW5 : Hid _ := hI5.kept
          have EN' := EN.out
          rw [← EN'] at HSM' ⊢
          clear HSM HCN HBK hI5 hv hb7 HR' HT EN' eNB
          go_wp2_with fail
          refine Calls.mono HSM'.out ?_
          rintro x2 w6' ⟨rfl, e6⟩
          subst w6'
          go_wp2_with fail
          refine Calls.mono HCN'.out ?_
          rintro x2 w7 ⟨rfl, k7⟩
          obtain ⟨cT1, cW1, -, hbk⟩ := HCNall.out w7 k7
          have HBK : Hid _ := hbk
          have K7 : Hid _ := k7
          have hfld0 := fun W => field_cnt0 (.int .i64 NB) (.int .i64 0) (.int .i64 cW) (.int .i64 cT) W
          clear hbk k7
          go_wp2_with fail
          refine Calls.mono HBK.out ?_
          rintro x2 w8 ⟨rfl, k8⟩
          obtain ⟨cT2, cW2, hcn2, -⟩ := HCNall.out w8 (K7.out.trans' k8)
          have HCN2 : Hid _ := hcn2
          have K8 : Hid _ := K7.out.trans' k8
          have hfld1 := fun W => field_cnt1 (.int .i64 NB) (.int .i64 0) (.int .i64 cW2) (.int .i64 cT2) W
          clear hcn2 k8 HCNall HBK K7
          go_wp2_with fail
          refine Calls.mono HCN2.out ?_
          rintro x2 w9 ⟨rfl, k9⟩
          have K9 : Hid _ := k9
          clear k9
          go_wp2_with fail
          go_ret
          exact ⟨by simp, (KW5.out.trans' K8.out).trans' K9.out⟩

set_option maxRecDepth 100000 in
set_option maxHeartbeats 800000 in
theorem sinput_out (w : World) (oa : Option Addr) (c n : Nat) (B : Int) (hn : n ≤ 140737488351232) (v : Value) (h : ¬ (16 ≤ B ∧ B ≤ 1024 ∧ n ≤ 4194304)) : Calls Try.prog 4 #[.slice oa n c, .int .i64 B, v] w fun e w' => e = .returned (.bool true) ∧ Kept w w' := by
  have HAN : Hid _ := anchor_any8 w
  have hnot : ∀ (x : Bool) (w : World), (Op.unary .not (.bool x)).run Try.prog w = .ok (.bool (!x)) w := fun _ _ => rfl
  by_cases h1 : B < 16
  · have t1 : decide (B < 16) = true := decide_eq_true h1
    go_enter Try.func4, Try.ntmps4
    go_wp2_with fail
    refine Calls.mono HAN.out ?_
    rintro x w1 ⟨rfl, k1⟩
    have K1 : Hid _ := k1
    clear k1
    go_wp2_with fail
    go_ret
    exact ⟨rfl, K1.out⟩
  by_cases h2 : 1024 < B
  · have t1 : decide (B < 16) = false := decide_eq_false h1
    have t2 : decide (B > 1024) = true := decide_eq_true h2
    go_enter Try.func4, Try.ntmps4
    go_wp2_with fail
    refine Calls.mono HAN.out ?_
    rintro x w1 ⟨rfl, k1⟩
    have K1 : Hid _ := k1
    clear k1
    go_wp2_with fail
    go_ret
    exact ⟨rfl, K1.out⟩
  · have h3 : 4194304 < n := by omega
    have t1 : decide (B < 16) = false := decide_eq_false h1
    have t2 : decide (B > 1024) = false := decide_eq_false h2
    have t3 : decide ((n : Int) > 4194304) = true := by simp; omega
    have t3' : (n : Int) > 4194304 := by omega
    go_enter Try.func4, Try.ntmps4
    go_wp2_with fail
    refine Calls.mono HAN.out ?_
    rintro x w1 ⟨rfl, k1⟩
    have K1 : Hid _ := k1
    clear k1
    go_wp2_with fail
    go_ret
    exact ⟨rfl, K1.out⟩
theorem sinput_law (w : World) (oa : Option Addr) (c : Nat) (l : List Int) (hb : ArgB w oa c l) (B : Int) (ob : Option Addr) (cb : Nat) (q : List Int) (hq : NumsAt w ob q) (hql : q.length ≤ 140737488351232) :
    Calls Try.prog 4 #[.slice oa l.length c, .int .i64 B, .slice ob q.length cb] w fun e w' => e = .returned (.bool true) ∧ Kept w w' := by
  by_cases h : 16 ≤ B ∧ B ≤ 1024 ∧ l.length ≤ 4194304
  · obtain ⟨h1, h2, h3⟩ := h
    obtain ⟨n, rfl⟩ := Int.eq_ofNat_of_zero_le (show 0 ≤ B by omega)
    exact sinput_go w oa c l hb n (by omega) (by omega) h3 ob cb q hq hql
  · exact sinput_out w oa c l.length B hb.le _ h
end Go.Proofs.Ytepdnmjolhfboaa
