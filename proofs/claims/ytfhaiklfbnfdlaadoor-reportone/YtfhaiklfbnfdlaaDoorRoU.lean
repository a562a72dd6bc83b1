/- What is proved: ReportOne: for every text, place and tail the law answers true; conditions: their lengths together, that the tables lie as their texts lay them, that the library's variable of the greatest length holds a number. -/
import Derived.Test.YtfhaiklfbnfdlaaDoorRoT
import Derived.Test.YtfhaiklfbnfdlaaDoorRpC
import Derived.Test.YtfhaiklfbnfdlaaDoorRoO
namespace Go.Proofs.YtfhaiklfbnfdlaaDoor
open Go.RowKit

set_option maxRecDepth 100000 in
theorem same_zero (w : World) (a : Option Addr) (c : Nat) : Calls Tryd.prog 14 #[.agg #[.int .i64 0, .int .i64 0, .int .i64 0, .int .i64 0, .int .i64 0, .slice a 0 c], .agg #[.int .i64 0, .int .i64 0, .int .i64 0, .int .i64 0, .int .i64 0, .slice none 0 0]] w fun e w' => e = .returned (.bool true) ∧ Kept w w' := by
  obtain ⟨W2, e2⟩ : ∃ W2, W2 = (w.alloc (.cells #[.int .i64 0, .int .i64 0, .int .i64 0, .int .i64 0, .int .i64 0, .slice a 0 c] 25 (0, 0))).alloc (.cells #[.int .i64 0, .int .i64 0, .int .i64 0, .int .i64 0, .int .i64 0, .slice none 0 0] 25 (0, 0)) := ⟨_, rfl⟩
  have K2 : Hid (Kept w W2) := by rw [e2]; exact ((Same.refl _ w).alloc _).alloc _
  have BA : Hid (W2.heap[w.heap.size]? = some (.cells #[.int .i64 0, .int .i64 0, .int .i64 0, .int .i64 0, .int .i64 0, .slice a 0 c] 25 (0, 0))) := by rw [e2]; exact (two_new w _ _).1
  have BB : Hid (W2.heap[w.heap.size + 1]? = some (.cells #[.int .i64 0, .int .i64 0, .int .i64 0, .int .i64 0, .int .i64 0, .slice none 0 0] 25 (0, 0))) := by rw [e2]; exact (two_new w _ _).2
  go_enter Tryd.func14, Tryd.ntmps14
  go_upto_region 1 with fail
  rw [← e2]
  clear e2
  obtain ⟨c0, c1, c2, c3, c4, c5⟩ := ou_obj BA.out
  obtain ⟨d0, d1, d2, d3, d4, d5⟩ := ou_obj BB.out
  have lc := lt_of_heap BA.out
  have ld := lt_of_heap BB.out
  go_wp2_with fail
  go_loopw [5] (fun v5 W => v5 = .int .i64 0 ∧ W = W2) (fun _ _ => 0)
  case atStart => exact ⟨rfl, rfl⟩
  case round =>
    obtain ⟨rfl, rfl⟩ := hrel
    go_wp2_with fail
    go_ret
    exact ⟨rfl, K2.out⟩
theorem outL_leU {o : OuM} (h : okO o = true) : (outL o).length ≤ 6500000 := by
  obtain ⟨r0, r1, r2, r3, r4, r5, r6, r7, -⟩ := okO_iff h
  rw [← outR_eq]
  unfold outR
  have h1 := numL_le20 (p := [10, 99, 111, 100, 101, 32]) (n := o.cd) (by decide) r1.1 (by omega)
  have h2 := numL_le20 (p := [10, 111, 102, 102, 115, 101, 116, 32]) (n := o.of) (by decide) r2.1 (by omega)
  have h3 := numL_le20 (p := [10, 116, 120, 110, 115, 32]) (n := o.tn) (by decide) r3.1 (by omega)
  have h4 := numL_le20 (p := [10, 116, 111, 116, 97, 108, 32]) (n := o.tt) (by decide) r4.1 r4.2
  have h5 := numL_le20 (p := [10, 115, 104, 111, 119, 110, 32]) (n := (o.ls.length : Int)) (by decide) (by omega) (by omega)
  have h6 := vios_le r7
  have h7 := oWord_le o.kd
  have h8 : headB.length ≤ 20 := by decide
  have h9 : footB.length ≤ 20 := by decide
  have g : ∀ (b : Bool) (l : List UInt8), (if b = true then l else []).length ≤ l.length := fun b l => by cases b <;> simp
  have g1 := g (hc o.kd) (numL [10, 99, 111, 100, 101, 32] o.cd)
  have g2 := g (ho o.kd) (numL [10, 111, 102, 102, 115, 101, 116, 32] o.of)
  have g3 := g (ht o.kd) (numL [10, 116, 120, 110, 115, 32] o.tn)
  have g4 := g (hl o.kd) (numL [10, 116, 111, 116, 97, 108, 32] o.tt ++ numL [10, 115, 104, 111, 119, 110, 32] (o.ls.length : Int))
  have g5 : (numL [10, 116, 111, 116, 97, 108, 32] o.tt ++ numL [10, 115, 104, 111, 119, 110, 32] (o.ls.length : Int)).length = (numL [10, 116, 111, 116, 97, 108, 32] o.tt).length + (numL [10, 115, 104, 111, 119, 110, 32] (o.ls.length : Int)).length := List.length_append
  simp only [List.length_append, List.length_cons, List.length_nil] at *
  omega
set_option maxRecDepth 100000 in
set_option maxHeartbeats 3200000 in
theorem one22_law (w : World) (l t : List UInt8) (k : Int) (hlen : l.length ≤ 140737488355328) (hlt : t.length ≤ 140737488355328) (tb : Tab w.heap.size w) (hm : Mx w) (hw : Wds w) : Calls Tryd.prog 6 #[tx l, .int .i64 k, tx t] w fun e w' => e = .returned (.bool true) ∧ Kept w w' := by
  have HA : Hid _ := anchor_any22 w tb hm hw
  have HP : Hid (∀ W (x : List UInt8), Kept w W → x.length ≤ 150000000000000 → _) := fun W x (q : Kept w W) hx => parse22 x W hx (hm.on q) (hw.on q)
  have hl1 : l.length ≤ 150000000000000 := by omega
  by_cases hr : (prsT l).2 = 0
  · obtain ⟨ho, hL⟩ := prs_inv hr
    have hsmall : l.length ≤ 6500000 := by rw [← hL]; exact outL_leU ho
    have e0 : prsT l = ((prsT l).1, 0) := Prod.ext rfl hr
    generalize (prsT l).1 = o at *
    clear hr
    have h1 : Hid (∀ W, Kept w W → Calls Tryd.prog 16 #[tx l] W fun e w' => ∃ a c, e = .returned (.tuple #[ouV o (.slice a o.ls.length c), .int .i64 0]) ∧ OwV W.heap.size w' (.slice a o.ls.length c) o.ls ∧ Kept W w') := fun W q => by
      have h9 := HP.out W l q hl1
      rw [e0] at h9
      exact h9
    have hn : o.ls.length ≤ 10000 := (okO_iff ho).2.2.2.2.2.2.1
    have HRn : Hid (∀ W a c, Kept w W → OwV w.heap.size W (.slice a o.ls.length c) o.ls → Calls Tryd.prog 12 #[ouV o (.slice a o.ls.length c)] W fun e w' => e = .returned (.tuple #[tx l, .int .i64 0]) ∧ Kept W w') := fun W a c q h => by
      have h9 := render22 W o a c (Vi.Own.at Vi.ekV h) (by omega) (tb.up (Nat.le_refl _) q) (hw.on q)
      have e9 : rendT o = (l, 0) := by unfold rendT; rw [if_pos ho, hL]
      rw [e9] at h9
      exact h9
    have HVn : Hid (∀ W a c, OwV w.heap.size W (.slice a o.ls.length c) o.ls → Calls Tryd.prog 13 #[ouV o (.slice a o.ls.length c)] W fun e w' => e = .returned (.bool true) ∧ Kept W w') := fun W a c h => by
      have h9 := valid22 W o a c (Vi.Own.at Vi.ekV h) (by omega)
      rw [ho] at h9
      exact h9.mono fun e w' ⟨x, y⟩ => ⟨x, Vi.Grw.kept y⟩
    have HC : Hid (∀ W (n : Nat), Kept w W → n < l.length → Calls Tryd.prog 16 #[tx (l.take n)] W fun e w' => ∃ a c, e = .returned (.tuple #[ouV ou00 (.slice a 0 c), .int .i64 220]) ∧ Kept W w') := fun W n q hx => by
      have h9 := HP.out W (l.take n) q (by rw [List.length_take]; omega)
      have e9 : prsT (l.take n) = (ou00, 220) := by
        have h8 := prs_cut ho (k := n) (by rw [hL]; exact hx)
        rw [hL] at h8
        exact h8
      rw [e9] at h9
      exact h9.mono fun e w' ⟨a, c, x, _, y⟩ => ⟨a, c, x, y⟩
    have HT : Hid (∀ W, Kept w W → Calls Tryd.prog 16 #[tx (l ++ t)] W fun e w' => ∃ kd cd off tn tt n a c er, e = .returned (.tuple #[.agg #[.int .i64 kd, .int .i64 cd, .int .i64 off, .int .i64 tn, .int .i64 tt, .slice a n c], .int .i64 er]) ∧ (t = [] ∨ er = 220) ∧ Kept W w') := fun W q => by
      have h9 := HP.out W (l ++ t) q (by rw [List.length_append]; omega)
      refine h9.mono fun e w' ⟨a, c, x, _, y⟩ => ?_
      refine ⟨(prsT (l ++ t)).1.kd, (prsT (l ++ t)).1.cd, (prsT (l ++ t)).1.of, (prsT (l ++ t)).1.tn, (prsT (l ++ t)).1.tt, (prsT (l ++ t)).1.ls.length, a, c, (prsT (l ++ t)).2, x, ?_, y⟩
      by_cases ht : t = []
      · exact .inl ht
      · have h8 := prs_more ho ht
        rw [hL] at h8
        rw [h8]
        exact .inr rfl
    have hz : ¬ 9223372036854775807 < l.length + t.length := by omega
    have hln : (((⟨l.toArray⟩ : ByteArray).toList != (⟨l.toArray⟩ : ByteArray).toList)) = false := by rw [bne, tx_beq, decide_eq_true rfl]; rfl
    have hcut : ∀ n : Nat, n ≤ l.length → ∀ W, _ := fun n hn W => to_tx l n hn W
    clear tb hm hw HP hL ho e0 hlen hl1 hlt hsmall
    unfold ouV at h1 HRn HVn HC
    unfold ou00 at HC
    dsimp only at h1 HRn HVn HC
    obtain ⟨kd, cd, off, tn, tt, ls⟩ := o
    dsimp only at h1 HRn HVn HC hn
    go_enter Tryd.func6, Tryd.ntmps6
    go_wp2_with fail
    refine Calls.mono HA.out ?_
    rintro e w1 ⟨rfl, k1⟩
    have K1 : Hid (Kept w w1) := k1
    clear k1 HA
    go_wp2_with fail
    refine Calls.mono (h1.out _ K1.out) ?_
    rintro e w2 ⟨a, c, rfl, o2, k2⟩
    have K2 : Hid (Kept w w2) := K1.out.trans' k2
    have O2 : Hid (OwV w.heap.size w2 (.slice a ls.length c) ls) := Vi.Own.base o2 K1.out.size
    clear k2 o2 K1 h1
    obtain ⟨W3, e3⟩ : ∃ W3, W3 = w2.alloc (.cells #[.int .i64 kd, .int .i64 cd, .int .i64 off, .int .i64 tn, .int .i64 tt, .slice a ls.length c] 25 (0, 0)) := ⟨_, rfl⟩
    have k3 : Kept w2 W3 := by rw [e3]; exact (Same.refl _ w2).alloc _
    have B3 : Hid (W3.heap[w2.heap.size]? = some (.cells #[.int .i64 kd, .int .i64 cd, .int .i64 off, .int .i64 tn, .int .i64 tt, .slice a ls.length c] 25 (0, 0))) := by rw [e3]; exact heap_new w2 _
    have K3 : Hid (Kept w W3) := K2.out.trans' k3
    have O3 : Hid (OwV w.heap.size W3 (.slice a ls.length c) ls) := Vi.Own.on O2.out k3
    go_upto_region 4 with fail
    rw [← e3]
    clear e3 k3 K2 O2
    obtain ⟨d0, d1, d2, d3, d4, d5⟩ := ou_obj B3.out
    have ld := lt_of_heap B3.out
    go_wp2_with fail
    refine Calls.mono (HRn.out _ _ _ K3.out O3.out) ?_
    rintro e w4 ⟨rfl, k4⟩
    have B4 : Hid _ := (k4.block _ (lt_of_heap B3.out) (fun e => e)).trans B3.out
    have K4 : Hid (Kept w w4) := K3.out.trans' k4
    have O4 : Hid (OwV w.heap.size w4 (.slice a ls.length c) ls) := Vi.Own.on O3.out k4
    clear k4 K3 O3 B3 d0 d1 d2 d3 d4 d5 ld HRn
    obtain ⟨d0, d1, d2, d3, d4, d5⟩ := ou_obj B4.out
    have ld := lt_of_heap B4.out
    go_wp2_with fail
    refine Calls.mono (HVn.out _ _ _ O4.out) ?_
    rintro e w5 ⟨rfl, k5⟩
    have K5 : Hid (Kept w w5) := K4.out.trans' k5
    clear k5 K4 O4 B4 d0 d1 d2 d3 d4 d5 ld HVn
    by_cases q0 : 0 ≤ k
    · have g0 : decide (k ≥ 0) = true := decide_eq_true q0
      by_cases q1 : k < (l.length : Int)
      · have g1 : decide (k < (l.length : Int)) = true := decide_eq_true q1
        obtain ⟨n, rfl⟩ := Int.eq_ofNat_of_zero_le q0
        have hs : ∀ W, _ := hcut n (by omega)
        clear hcut
        have HCn : Hid _ := HC.out w5 n K5.out (by omega)
        go_wp2_with fail
        refine Calls.mono HCn.out ?_
        rintro e w6 ⟨a6, c6, rfl, k6⟩
        have K7 : Hid (Kept w (w6.alloc (.cells #[.int .i64 0, .int .i64 0, .int .i64 0, .int .i64 0, .int .i64 0, .slice a6 0 c6] 25 (0, 0)))) := (K5.out.trans' k6).alloc _
        clear k6 HCn HC K5 hs
        go_upto_region 11 with fail
        generalize w6.alloc (.cells #[.int .i64 0, .int .i64 0, .int .i64 0, .int .i64 0, .int .i64 0, .slice a6 0 c6] 25 (0, 0)) = W7 at *
        go_wp2_with fail
        rw [add_bytes]
        refine Calls.mono (HT.out _ K7.out) ?_
        rintro e w8 ⟨kd', cd', off', tn', tt', n', a', c', er, rfl, het, k8⟩
        have K8 : Hid (Kept w w8) := Same.trans' K7.out k8
        clear k8 HT
        have K9 : Hid (∀ o, Kept w (w8.alloc o)) := fun o => K8.out.alloc o
        cases t with
        | nil =>
          go_wp2_with fail
          go_ret
          exact ⟨rfl, K9.out _⟩
        | cons x t =>
          obtain rfl : er = 220 := het.resolve_left (by simp)
          go_wp2_with fail
          go_ret
          exact ⟨rfl, K9.out _⟩
      · have g1 : decide (k < (l.length : Int)) = false := decide_eq_false q1
        clear hcut HC
        go_wp2_with fail
        rw [add_bytes]
        refine Calls.mono (HT.out _ K5.out) ?_
        rintro e w8 ⟨kd', cd', off', tn', tt', n', a', c', er, rfl, het, k8⟩
        have K8 : Hid (Kept w w8) := Same.trans' K5.out k8
        clear k8 HT
        have K9 : Hid (∀ o, Kept w (w8.alloc o)) := fun o => K8.out.alloc o
        cases t with
        | nil =>
          go_wp2_with fail
          go_ret
          exact ⟨rfl, K9.out _⟩
        | cons x t =>
          obtain rfl : er = 220 := het.resolve_left (by simp)
          go_wp2_with fail
          go_ret
          exact ⟨rfl, K9.out _⟩
    · have g0 : decide (k ≥ 0) = false := decide_eq_false q0
      have g1 : ¬ 0 ≤ k := q0
      clear hcut HC
      go_wp2_with fail
      rw [add_bytes]
      refine Calls.mono (HT.out _ K5.out) ?_
      rintro e w8 ⟨kd', cd', off', tn', tt', n', a', c', er, rfl, het, k8⟩
      have K8 : Hid (Kept w w8) := Same.trans' K5.out k8
      clear k8 HT
      have K9 : Hid (∀ o, Kept w (w8.alloc o)) := fun o => K8.out.alloc o
      cases t with
      | nil =>
        go_wp2_with fail
        go_ret
        exact ⟨rfl, K9.out _⟩
      | cons x t =>
        obtain rfl : er = 220 := het.resolve_left (by simp)
        go_wp2_with fail
        go_ret
        exact ⟨rfl, K9.out _⟩
  · have e0 := prs_no hr
    have h1 : Hid (∀ W, Kept w W → Calls Tryd.prog 16 #[tx l] W fun e w' => ∃ a c, e = .returned (.tuple #[ouV ou00 (.slice a 0 c), .int .i64 220]) ∧ Kept W w') := fun W q => by
      have h9 := HP.out W l q hl1
      rw [e0] at h9
      exact h9.mono fun e w' ⟨a, c, x, _, y⟩ => ⟨a, c, x, y⟩
    have HS : Hid (∀ W a c, _) := fun W a c => same_zero W a c
    clear tb hm hw HP hr e0 hlen hl1
    unfold ouV ou00 at h1
    dsimp only at h1
    go_enter Tryd.func6, Tryd.ntmps6
    go_wp2_with fail
    refine Calls.mono HA.out ?_
    rintro e w1 ⟨rfl, k1⟩
    have K1 : Hid (Kept w w1) := k1
    clear k1 HA
    go_wp2_with fail
    refine Calls.mono (h1.out _ K1.out) ?_
    rintro e w2 ⟨a, c, rfl, k2⟩
    have K2 : Hid (Kept w w2) := K1.out.trans' k2
    clear k2 K1 h1
    obtain ⟨W3, e3⟩ : ∃ W3, W3 = w2.alloc (.cells #[.int .i64 0, .int .i64 0, .int .i64 0, .int .i64 0, .int .i64 0, .slice a 0 c] 25 (0, 0)) := ⟨_, rfl⟩
    have B3 : Hid (W3.heap[w2.heap.size]? = some (.cells #[.int .i64 0, .int .i64 0, .int .i64 0, .int .i64 0, .int .i64 0, .slice a 0 c] 25 (0, 0))) := by rw [e3]; exact heap_new w2 _
    have K3 : Hid (Kept w W3) := by rw [e3]; exact K2.out.alloc _
    go_upto_region 4 with fail
    rw [← e3]
    clear e3 K2
    obtain ⟨d0, d1, d2, d3, d4, d5⟩ := ou_obj B3.out
    have ld := lt_of_heap B3.out
    go_wp2_with fail
    refine Calls.mono (HS.out _ _ _) ?_
    rintro e w4 ⟨rfl, k4⟩
    have K4 : Hid (Kept w w4) := K3.out.trans' k4
    clear k4 K3
    go_wp2_with fail
    go_ret
    exact ⟨rfl, K4.out⟩
end Go.Proofs.YtfhaiklfbnfdlaaDoor
