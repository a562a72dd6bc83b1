/- What is proved: the law ReportBack; conditions: the lists' lengths, that the tables lie as their texts lay them, that the library's variable of the greatest length holds a number. -/
import Derived.Test.YtfhaiklfbnfdlaaDoorRpC
import Derived.Test.YtfhaiklfbnfdlaaDoorRpF
import Derived.Test.YtfhaiklfbnfdlaaDoorRoV
import Derived.Test.YtfhaiklfbnfdlaaDoorRoX
import Derived.Test.YtfhaiklfbnfdlaaDoorRoO
import Derived.Test.YtfhaiklfbnfdlaaDoorRoT
namespace Go.Proofs.YtfhaiklfbnfdlaaDoor
open Go.RowKit

theorem outL_le {o : OuM} (h : okO o = true) : (outL o).length ≤ 6500000 := by
  obtain ⟨r0, r1, r2, r3, r4, r5, r6, r7, -⟩ := okO_iff h
  rw [← outR_eq]
  unfold outR
  have h1 := numL_le20 (p := [10, 99, 111, 100, 101, 32]) (n := o.cd) (by decide) r1.1 (by omega)
  have h2 := numL_le20 (p := [10, 111, 102, 102, 115, 101, 116, 32]) (n := o.of) (by decide) r2.1 (by omega)
  have h3 := numL_le20 (p := [10, 116, 120, 110, 115, 32]) (n := o.tn) (by decide) r3.1 (by omega)
  have h4 := numL_le20 (p := [10, 116, 111, 116, 97, 108, 32]) (n := o.tt) (by decide) r4.1 r4.2
  have h5 := numL_le20 (p := [10, 115, 104, 111, 119, 110, 32]) (n := (o.ls.length : Int)) (by decide) (by omega) (by omega)
  have h6 := vios_le r7
  have h7 := oWord_le o.kd
  have h8 : headB.length ≤ 20 := by decide
  have h9 : footB.length ≤ 20 := by decide
  have g : ∀ (b : Bool) (l : List UInt8), (if b = true then l else []).length ≤ l.length := fun b l => by cases b <;> simp
  have g1 := g (hc o.kd) (numL [10, 99, 111, 100, 101, 32] o.cd)
  have g2 := g (ho o.kd) (numL [10, 111, 102, 102, 115, 101, 116, 32] o.of)
  have g3 := g (ht o.kd) (numL [10, 116, 120, 110, 115, 32] o.tn)
  have g4 := g (hl o.kd) (numL [10, 116, 111, 116, 97, 108, 32] o.tt ++ numL [10, 115, 104, 111, 119, 110, 32] (o.ls.length : Int))
  have g5 : (numL [10, 116, 111, 116, 97, 108, 32] o.tt ++ numL [10, 115, 104, 111, 119, 110, 32] (o.ls.length : Int)).length = (numL [10, 116, 111, 116, 97, 108, 32] o.tt).length + (numL [10, 115, 104, 111, 119, 110, 32] (o.ls.length : Int)).length := List.length_append
  simp only [List.length_append, List.length_cons, List.length_nil] at *
  omega
theorem outL_inj {o p : OuM} (ho : okO o = true) (hp : okO p = true) (h : outL o = outL p) : o = p := by
  have h1 := prs_app ho
  rw [h, prs_app hp] at h1
  exact (Prod.mk.inj h1).1.symm
theorem eq_bool (o p : OuM) : ∃ r : Bool, r = true ↔ o = p := by
  by_cases h : o = p
  · exact ⟨true, by simp [h]⟩
  · exact ⟨false, by simp [h]⟩
set_option maxRecDepth 100000 in
set_option maxHeartbeats 3200000 in
theorem back22_law (w : World) (o p : OuM) (a1 a2 : Option Addr) (c1 c2 : Nat) (ha : Vi.At Vi.vl1 12 w a1 o.ls) (hna : a1 = none → o.ls.length = 0 ∧ c1 = 0) (hla : o.ls.length ≤ 1172812402961) (hb : Vi.At Vi.vl1 12 w a2 p.ls) (hnb : a2 = none → p.ls.length = 0 ∧ c2 = 0) (hlb : p.ls.length ≤ 1172812402961) (tb : Tab w.heap.size w) (hm : Mx w) (hw : Wds w) :
    Calls Tryd.prog 5 #[ouV o (.slice a1 o.ls.length c1), ouV p (.slice a2 p.ls.length c2)] w fun e w' => e = .returned (.bool true) ∧ Kept w w' := by
  have HA : Hid (∀ W, Kept w W → _) := fun W (k : Kept w W) => anchor_any22 W (tb.up (Nat.le_refl _) k) (hm.on k) (hw.on k)
  have HC1 : Hid (∀ W, Kept w W → Calls Tryd.prog 10 #[ouV o (.slice a1 o.ls.length c1)] W fun e w' => ∃ a' c', e = .returned (ouV o (.slice a' o.ls.length c')) ∧ OwV w.heap.size w' (.slice a' o.ls.length c') o.ls ∧ Kept W w') := fun W k => (copied_any22 W o a1 c1 (ha.on k) hna hla).mono fun e w' ⟨a', c', x, y, z⟩ => ⟨a', c', x, Vi.Own.base y k.size, z⟩
  have HR1 : Hid (∀ W a' c', Kept w W → OwV w.heap.size W (.slice a' o.ls.length c') o.ls → Calls Tryd.prog 12 #[ouV o (.slice a' o.ls.length c')] W fun e w' => e = .returned (.tuple #[tx (rendT o).1, .int .i64 (rendT o).2]) ∧ Kept W w') := fun W a' c' k q => render22 W o a' c' (Vi.Own.at Vi.ekV q) hla (tb.up (Nat.le_refl _) k) (hw.on k)
  have ER1 : Hid (rendT o = if okO o = true then (outL o, 0) else ([], 220)) := rfl
  have HC2 : Hid (∀ W, Kept w W → Calls Tryd.prog 10 #[ouV p (.slice a2 p.ls.length c2)] W fun e w' => ∃ a' c', e = .returned (ouV p (.slice a' p.ls.length c')) ∧ OwV w.heap.size w' (.slice a' p.ls.length c') p.ls ∧ Kept W w') := fun W k => (copied_any22 W p a2 c2 (hb.on k) hnb hlb).mono fun e w' ⟨a', c', x, y, z⟩ => ⟨a', c', x, Vi.Own.base y k.size, z⟩
  have HR2 : Hid (∀ W a' c', Kept w W → OwV w.heap.size W (.slice a' p.ls.length c') p.ls → Calls Tryd.prog 12 #[ouV p (.slice a' p.ls.length c')] W fun e w' => e = .returned (.tuple #[tx (rendT p).1, .int .i64 (rendT p).2]) ∧ Kept W w') := fun W a' c' k q => render22 W p a' c' (Vi.Own.at Vi.ekV q) hlb (tb.up (Nat.le_refl _) k) (hw.on k)
  have ER2 : Hid (rendT p = if okO p = true then (outL p, 0) else ([], 220)) := rfl
  have HD : Hid (∀ W, Kept w W → Calls Tryd.prog 11 #[ouV o (.slice a1 o.ls.length c1)] W fun e w' => e = .returned (.bool (okO o)) ∧ Kept W w') := fun W k => (rvalid22 W o a1 c1 (ha.on k) hla).mono fun e w' ⟨x, y⟩ => ⟨x, Vi.Grw.kept y⟩
  have HP : Hid (∀ W, Kept w W → okO o = true → Calls Tryd.prog 16 #[tx (outL o)] W fun e w' => ∃ a' c', e = .returned (.tuple #[ouV o (.slice a' o.ls.length c'), .int .i64 0]) ∧ OwV w.heap.size w' (.slice a' o.ls.length c') o.ls ∧ Kept W w') := fun W k hx => by
    have h9 := parse22 (outL o) W (by have := outL_le hx; omega) (hm.on k) (hw.on k)
    rw [prs_app hx] at h9
    exact h9.mono fun e w' ⟨a', c', x, y, z⟩ => ⟨a', c', x, Vi.Own.base y k.size, z⟩
  have HS1 : Hid (∀ W a' c', Kept w W → OwV w.heap.size W (.slice a' o.ls.length c') o.ls → Calls Tryd.prog 14 #[ouV o (.slice a' o.ls.length c'), ouV o (.slice a1 o.ls.length c1)] W fun e w' => e = .returned (.bool true) ∧ Kept W w') := fun W a' c' k q => same22_any W o o a' a1 c' c1 (Vi.Own.at Vi.ekV q) (ha.on k) (by omega) (by omega) true (by simp)
  obtain ⟨r, hr⟩ := eq_bool o p
  have HS2 : Hid (∀ W, Kept w W → Calls Tryd.prog 14 #[ouV o (.slice a1 o.ls.length c1), ouV p (.slice a2 p.ls.length c2)] W fun e w' => e = .returned (.bool r) ∧ Kept W w') := fun W k => same22_any W o p a1 a2 c1 c2 (ha.on k) (hb.on k) (by omega) (by omega) r hr
  have HX : Hid (okO o = true → okO p = true → (outL o == outL p) = r) := fun h1 h2 => by
    cases r with
    | true => exact beq_iff_eq.2 (by rw [hr.1 rfl])
    | false => exact beq_eq_false_iff_ne.2 fun e => by cases hr.2 (outL_inj h1 h2 e)
  clear ha hna hla hb hnb hlb tb hm hw hr
  generalize rendT o = RT1 at *
  generalize outL o = OL1 at *
  generalize rendT p = RT2 at *
  generalize outL p = OL2 at *
  obtain ⟨ok1, eok⟩ : ∃ ok, ok = okO o := ⟨_, rfl⟩
  rw [← eok] at HD HP HX ER1
  clear eok
  obtain ⟨ok2, eok⟩ : ∃ ok, ok = okO p := ⟨_, rfl⟩
  rw [← eok] at HX ER2
  clear eok
  have HO : Hid (∀ W v, OwV w.heap.size W v o.ls → ∀ W', Kept W W' → OwV w.heap.size W' v o.ls) := fun W v q W' k => Vi.Own.on q k
  obtain ⟨kd1, cd1, off1, tn1, tt1, l1⟩ := o
  obtain ⟨kd2, cd2, off2, tn2, tt2, l2⟩ := p
  unfold ouV at HC1 HR1 HC2 HR2 HD HP HS1 HS2 ⊢
  dsimp only at HC1 HR1 HC2 HR2 HD HP HS1 HS2 HO ⊢
  obtain ⟨n1, en⟩ : ∃ n, n = l1.length := ⟨_, rfl⟩
  rw [← en] at HC1 HR1 HD HP HS1 HS2 ⊢
  clear en
  obtain ⟨n2, en⟩ : ∃ n, n = l2.length := ⟨_, rfl⟩
  rw [← en] at HC2 HR2 HS2 ⊢
  clear en
  obtain ⟨W0, e0⟩ : ∃ W0, W0 = (w.alloc (.cells #[.int .i64 kd1, .int .i64 cd1, .int .i64 off1, .int .i64 tn1, .int .i64 tt1, .slice a1 n1 c1] 25 (0, 0))).alloc (.cells #[.int .i64 kd2, .int .i64 cd2, .int .i64 off2, .int .i64 tn2, .int .i64 tt2, .slice a2 n2 c2] 25 (0, 0)) := ⟨_, rfl⟩
  have K0 : Hid (Kept w W0) := by rw [e0]; exact ((Same.refl _ w).alloc _).alloc _
  have B0 : Hid (W0.heap[w.heap.size]? = some (.cells #[.int .i64 kd1, .int .i64 cd1, .int .i64 off1, .int .i64 tn1, .int .i64 tt1, .slice a1 n1 c1] 25 (0, 0))) := by rw [e0]; exact (two_new w _ _).1
  have D0 : Hid (W0.heap[w.heap.size + 1]? = some (.cells #[.int .i64 kd2, .int .i64 cd2, .int .i64 off2, .int .i64 tn2, .int .i64 tt2, .slice a2 n2 c2] 25 (0, 0))) := by rw [e0]; exact (two_new w _ _).2
  go_enter Tryd.func5, Tryd.ntmps5
  go_upto_region 1 with fail
  rw [← e0]
  clear e0
  go_wp2_with fail
  refine Calls.mono (HA.out _ K0.out) ?_
  rintro e w1 ⟨rfl, k1⟩
  have B1 : Hid _ := (k1.block _ (lt_of_heap B0.out) (fun e => e)).trans B0.out
  have D1 : Hid _ := (k1.block _ (lt_of_heap D0.out) (fun e => e)).trans D0.out
  have K1 : Hid (Kept w w1) := K0.out.trans' k1
  clear k1 K0 B0 D0 HA
  obtain ⟨e0, e1, e2, e3, e4, e5⟩ := ou_obj B1.out
  have lc := lt_of_heap B1.out
  obtain ⟨d0, d1, d2, d3, d4, d5⟩ := ou_obj D1.out
  have ld := lt_of_heap D1.out
  go_wp2_with fail
  refine Calls.mono (HC1.out _ K1.out) ?_
  rintro e w2 ⟨a', c', rfl, o2, k2⟩
  have O2 : Hid _ := o2
  have B2 : Hid _ := (k2.block _ (lt_of_heap B1.out) (fun e => e)).trans B1.out
  have D2 : Hid _ := (k2.block _ (lt_of_heap D1.out) (fun e => e)).trans D1.out
  have K2 : Hid (Kept w w2) := K1.out.trans' k2
  clear k2 K1 B1 D1 o2 HC1 e0 e1 e2 e3 e4 e5 lc d0 d1 d2 d3 d4 d5 ld
  go_wp2_with fail
  refine Calls.mono (HR1.out _ _ _ K2.out O2.out) ?_
  rintro e w3 ⟨rfl, k3⟩
  have B3 : Hid _ := (k3.block _ (lt_of_heap B2.out) (fun e => e)).trans B2.out
  have D3 : Hid _ := (k3.block _ (lt_of_heap D2.out) (fun e => e)).trans D2.out
  have K3 : Hid (Kept w w3) := K2.out.trans' k3
  clear k3 K2 B2 D2 O2 HR1
  obtain ⟨e0, e1, e2, e3, e4, e5⟩ := ou_obj B3.out
  have lc := lt_of_heap B3.out
  obtain ⟨d0, d1, d2, d3, d4, d5⟩ := ou_obj D3.out
  have ld := lt_of_heap D3.out
  go_wp2_with fail
  refine Calls.mono (HC2.out _ K3.out) ?_
  rintro e w4 ⟨a', c', rfl, o4, k4⟩
  have O4 : Hid _ := o4
  have B4 : Hid _ := (k4.block _ (lt_of_heap B3.out) (fun e => e)).trans B3.out
  have D4 : Hid _ := (k4.block _ (lt_of_heap D3.out) (fun e => e)).trans D3.out
  have K4 : Hid (Kept w w4) := K3.out.trans' k4
  clear k4 K3 B3 D3 o4 HC2 e0 e1 e2 e3 e4 e5 lc d0 d1 d2 d3 d4 d5 ld
  go_wp2_with fail
  refine Calls.mono (HR2.out _ _ _ K4.out O4.out) ?_
  rintro e w5 ⟨rfl, k5⟩
  have B5 : Hid _ := (k5.block _ (lt_of_heap B4.out) (fun e => e)).trans B4.out
  have D5 : Hid _ := (k5.block _ (lt_of_heap D4.out) (fun e => e)).trans D4.out
  have K5 : Hid (Kept w w5) := K4.out.trans' k5
  clear k5 K4 B4 D4 O4 HR2
  cases ok1 with
  | false =>
    have E1 : Hid (RT1 = ([], 220)) := ER1.out
    rw [E1.out]
    clear ER1 E1 ER2 HX HP HS1 HS2 HO
    obtain ⟨e0, e1, e2, e3, e4, e5⟩ := ou_obj B5.out
    have lc := lt_of_heap B5.out
    obtain ⟨d0, d1, d2, d3, d4, d5⟩ := ou_obj D5.out
    have ld := lt_of_heap D5.out
    go_wp2_with fail
    refine Calls.mono (HD.out _ K5.out) ?_
    rintro e w6 ⟨rfl, k6⟩
    have K6 : Hid (Kept w w6) := K5.out.trans' k6
    clear k6 K5 B5 D5 HD e0 e1 e2 e3 e4 e5 lc d0 d1 d2 d3 d4 d5 ld
    go_wp2_with fail
    go_ret
    exact ⟨rfl, K6.out⟩
  | true =>
    have E1 : Hid (RT1 = (OL1, 0)) := ER1.out
    rw [E1.out]
    have HP' : Hid _ := HP.out _ K5.out (by first | trivial | rfl)
    clear ER1 E1 HD HP
    go_wp2_with fail
    refine Calls.mono HP'.out ?_
    rintro e w6 ⟨a', c', rfl, o6, k6⟩
    obtain ⟨W7, e7⟩ : ∃ W7, W7 = w6.alloc (.cells #[.int .i64 kd1, .int .i64 cd1, .int .i64 off1, .int .i64 tn1, .int .i64 tt1, .slice a' n1 c'] 25 (0, 0)) := ⟨_, rfl⟩
    have k7 : Kept w6 W7 := by rw [e7]; exact (Same.refl _ w6).alloc _
    have C7 : Hid (W7.heap[w6.heap.size]? = some (.cells #[.int .i64 kd1, .int .i64 cd1, .int .i64 off1, .int .i64 tn1, .int .i64 tt1, .slice a' n1 c'] 25 (0, 0))) := by rw [e7]; exact heap_new w6 _
    have O7 : Hid (OwV w.heap.size W7 (.slice a' n1 c') l1) := HO.out _ _ o6 _ k7
    have B6 : Hid _ := (k6.block _ (lt_of_heap B5.out) (fun e => e)).trans B5.out
    have D6 : Hid _ := (k6.block _ (lt_of_heap D5.out) (fun e => e)).trans D5.out
    have K6 : Hid (Kept w w6) := K5.out.trans' k6
    clear k6 K5 B5 D5 HP' o6 HO
    go_upto_region 7 with fail
    rw [← e7]
    clear e7
    have B7 : Hid _ := (k7.block _ (lt_of_heap B6.out) (fun e => e)).trans B6.out
    have D7 : Hid _ := (k7.block _ (lt_of_heap D6.out) (fun e => e)).trans D6.out
    have K7 : Hid (Kept w W7) := K6.out.trans' k7
    clear k7 K6 B6 D6 
    obtain ⟨e0, e1, e2, e3, e4, e5⟩ := ou_obj B7.out
    have lc := lt_of_heap B7.out
    obtain ⟨d0, d1, d2, d3, d4, d5⟩ := ou_obj D7.out
    have ld := lt_of_heap D7.out
    obtain ⟨q0, q1, q2, q3, q4, q5⟩ := ou_obj C7.out
    have lq := lt_of_heap C7.out
    go_wp2_with fail
    refine Calls.mono (HS1.out _ _ _ K7.out O7.out) ?_
    rintro e w8 ⟨rfl, k8⟩
    have B8 : Hid _ := (k8.block _ (lt_of_heap B7.out) (fun e => e)).trans B7.out
    have D8 : Hid _ := (k8.block _ (lt_of_heap D7.out) (fun e => e)).trans D7.out
    have K8 : Hid (Kept w w8) := K7.out.trans' k8
    clear k8 K7 B7 D7 O7 C7 HS1 q0 q1 q2 q3 q4 q5 lq e0 e1 e2 e3 e4 e5 lc d0 d1 d2 d3 d4 d5 ld
    cases ok2 with
    | false =>
      have E2 : Hid (RT2 = ([], 220)) := ER2.out
      rw [E2.out]
      clear ER2 E2 HX HS2 B8 D8
      go_wp2_with fail
      go_ret
      exact ⟨rfl, K8.out⟩
    | true =>
      have E2 : Hid (RT2 = (OL2, 0)) := ER2.out
      rw [E2.out]
      have hx := HX.out (by first | trivial | rfl) (by first | trivial | rfl)
      have HS' : Hid _ := HS2.out _ K8.out
      clear ER2 E2 HX HS2
      obtain ⟨e0, e1, e2, e3, e4, e5⟩ := ou_obj B8.out
      have lc := lt_of_heap B8.out
      obtain ⟨d0, d1, d2, d3, d4, d5⟩ := ou_obj D8.out
      have ld := lt_of_heap D8.out
      go_wp2_with fail
      refine Calls.mono HS'.out ?_
      rintro e w9 ⟨rfl, k9⟩
      have K9 : Hid (Kept w w9) := K8.out.trans' k9
      clear k9 K8 B8 D8 HS' e0 e1 e2 e3 e4 e5 lc d0 d1 d2 d3 d4 d5 ld
      go_wp2_with fail
      go_ret
      refine ⟨?_, K9.out⟩
      cases r <;> rfl
end Go.Proofs.YtfhaiklfbnfdlaaDoor
