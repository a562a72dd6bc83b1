/- What is proved: the law ReportRenders; conditions: the list's length, that the tables lie as their texts lay them, that the library's variable of the greatest length holds a number. -/
import Derived.Test.YtfhaiklfbnfdlaaDoorRpC
import Derived.Test.YtfhaiklfbnfdlaaDoorRpF
import Derived.Test.YtfhaiklfbnfdlaaDoorRoV
import Derived.Test.YtfhaiklfbnfdlaaDoorRoX
import Derived.Test.YtfhaiklfbnfdlaaDoorRoO
namespace Go.Proofs.YtfhaiklfbnfdlaaDoor
open Go.RowKit

set_option maxRecDepth 100000 in
set_option maxHeartbeats 3200000 in
theorem renders_law (w : World) (o : OuM) (a : Option Addr) (cap : Nat) (h : Vi.At Vi.vl1 12 w a o.ls) (hn : a = none → o.ls.length = 0 ∧ cap = 0) (hlen : o.ls.length ≤ 1172812402961) (tb : Tab w.heap.size w) (hm : Mx w) (hw : Wds w) :
    Calls Tryd.prog 3 #[ouV o (.slice a o.ls.length cap)] w fun e w' => e = .returned (.bool true) ∧ Kept w w' := by
  have HA : Hid (∀ W, Kept w W → _) := fun W (k : Kept w W) => anchor_any22 W (tb.up (Nat.le_refl _) k) (hm.on k) (hw.on k)
  have HC : Hid (∀ W, Kept w W → Calls Tryd.prog 10 #[ouV o (.slice a o.ls.length cap)] W fun e w' => ∃ a' c', e = .returned (ouV o (.slice a' o.ls.length c')) ∧ OwV w.heap.size w' (.slice a' o.ls.length c') o.ls ∧ Kept W w') := fun W k => (copied_any22 W o a cap (h.on k) hn hlen).mono fun e w' ⟨a', c', x, y, z⟩ => ⟨a', c', x, Vi.Own.base y k.size, z⟩
  have HD : Hid (∀ W, Kept w W → Calls Tryd.prog 11 #[ouV o (.slice a o.ls.length cap)] W fun e w' => e = .returned (.bool (okO o)) ∧ Kept W w') := fun W k => (rvalid22 W o a cap (h.on k) hlen).mono fun e w' ⟨x, y⟩ => ⟨x, Vi.Grw.kept y⟩
  have HR : Hid (∀ W a' c', Kept w W → OwV w.heap.size W (.slice a' o.ls.length c') o.ls → Calls Tryd.prog 12 #[ouV o (.slice a' o.ls.length c')] W fun e w' => e = .returned (.tuple #[tx (rendT o).1, .int .i64 (rendT o).2]) ∧ Kept W w') := fun W a' c' k q => render22 W o a' c' (Vi.Own.at Vi.ekV q) hlen (tb.up (Nat.le_refl _) k) (hw.on k)
  have HV : Hid (∀ W a' c', OwV w.heap.size W (.slice a' o.ls.length c') o.ls → Calls Tryd.prog 13 #[ouV o (.slice a' o.ls.length c')] W fun e w' => e = .returned (.bool (okO o)) ∧ Kept W w') := fun W a' c' q => (valid22 W o a' c' (Vi.Own.at Vi.ekV q) hlen).mono fun e w' ⟨x, y⟩ => ⟨x, Vi.Grw.kept y⟩
  have HS : Hid (∀ W a' c', Kept w W → OwV w.heap.size W (.slice a' o.ls.length c') o.ls → Calls Tryd.prog 14 #[ouV o (.slice a' o.ls.length c'), ouV o (.slice a o.ls.length cap)] W fun e w' => e = .returned (.bool true) ∧ Kept W w') := fun W a' c' k q => same22_any W o o a' a c' cap (Vi.Own.at Vi.ekV q) (h.on k) (by omega) (by omega) true (by simp)
  have HT : Hid (∀ W, Kept w W → okO o = true → Calls Tryd.prog 15 #[ouV o (.slice a o.ls.length cap)] W fun e w' => ∃ v', e = .returned v' ∧ ApO W.heap.size W (nu (outL o)) v' w') := fun W k hx => rtext22 W o a cap hx (h.on k)
  have ER : Hid (rendT o = if okO o = true then (outL o, 0) else ([], 220)) := rfl
  clear h hn hlen tb hm hw
  generalize rendT o = RT at *
  generalize outL o = OL at *
  obtain ⟨ok, eok⟩ : ∃ ok, ok = okO o := ⟨_, rfl⟩
  rw [← eok] at HD HV HT ER
  clear eok
  have HO : Hid (∀ W v, OwV w.heap.size W v o.ls → ∀ W', Kept W W' → OwV w.heap.size W' v o.ls) := fun W v q W' k => Vi.Own.on q k
  obtain ⟨kd, cd, off, tn, tt, ls⟩ := o
  unfold ouV at HC HD HR HV HS HT ⊢
  dsimp only at HC HD HR HV HS HT HO ⊢
  obtain ⟨n, en⟩ : ∃ n, n = ls.length := ⟨_, rfl⟩
  rw [← en] at HC HD HR HV HS HT ⊢
  clear en
  have B0 : Hid ((w.alloc (.cells #[.int .i64 kd, .int .i64 cd, .int .i64 off, .int .i64 tn, .int .i64 tt, .slice a n cap] 25 (0, 0))).heap[w.heap.size]? = some (.cells #[.int .i64 kd, .int .i64 cd, .int .i64 off, .int .i64 tn, .int .i64 tt, .slice a n cap] 25 (0, 0))) := heap_new w _
  have K0 : Hid (Kept w (w.alloc (.cells #[.int .i64 kd, .int .i64 cd, .int .i64 off, .int .i64 tn, .int .i64 tt, .slice a n cap] 25 (0, 0)))) := (Same.refl _ w).alloc _
  go_enter Tryd.func3, Tryd.ntmps3
  go_upto_region 1 with fail
  generalize w.alloc (.cells #[.int .i64 kd, .int .i64 cd, .int .i64 off, .int .i64 tn, .int .i64 tt, .slice a n cap] 25 (0, 0)) = W0 at B0 K0 ⊢
  go_wp2_with fail
  refine Calls.mono (HA.out _ K0.out) ?_
  rintro e w1 ⟨rfl, k1⟩
  have B1 : Hid _ := (k1.block _ (lt_of_heap B0.out) (fun e => e)).trans B0.out
  have K1 : Hid (Kept w w1) := K0.out.trans' k1
  clear k1 K0 B0 HA
  obtain ⟨c0, c1, c2, c3, c4, c5⟩ := ou_obj B1.out
  have lc := lt_of_heap B1.out
  go_wp2_with fail
  refine Calls.mono (HC.out _ K1.out) ?_
  rintro e w2 ⟨a', c', rfl, o2, k2⟩
  obtain ⟨W3, e3⟩ : ∃ W3, W3 = w2.alloc (.cells #[.int .i64 kd, .int .i64 cd, .int .i64 off, .int .i64 tn, .int .i64 tt, .slice a' n c'] 25 (0, 0)) := ⟨_, rfl⟩
  have k3 : Kept w2 W3 := by rw [e3]; exact (Same.refl _ w2).alloc _
  have D3 : Hid (W3.heap[w2.heap.size]? = some (.cells #[.int .i64 kd, .int .i64 cd, .int .i64 off, .int .i64 tn, .int .i64 tt, .slice a' n c'] 25 (0, 0))) := by rw [e3]; exact heap_new w2 _
  have K3 : Hid (Kept w W3) := (K1.out.trans' k2).trans' k3
  have O3 : Hid (OwV w.heap.size W3 (.slice a' n c') ls) := HO.out _ _ o2 _ k3
  have B3 : Hid _ := ((k2.trans' k3).block _ (lt_of_heap B1.out) (fun e => e)).trans B1.out
  go_upto_region 4 with fail
  rw [← e3]
  clear e3 k3 k2 o2 K1 B1 c0 c1 c2 c3 c4 c5 lc HC
  obtain ⟨c0, c1, c2, c3, c4, c5⟩ := ou_obj B3.out
  have lc := lt_of_heap B3.out
  obtain ⟨d0, d1, d2, d3, d4, d5⟩ := ou_obj D3.out
  have ld := lt_of_heap D3.out
  go_wp2_with fail
  refine Calls.mono (HD.out _ K3.out) ?_
  rintro e w4 ⟨rfl, k4⟩
  have B4 : Hid _ := (k4.block _ (lt_of_heap B3.out) (fun e => e)).trans B3.out
  have D4 : Hid _ := (k4.block _ (lt_of_heap D3.out) (fun e => e)).trans D3.out
  have K4 : Hid (Kept w w4) := K3.out.trans' k4
  have O4 : Hid _ := HO.out _ _ O3.out _ k4
  clear k4 K3 B3 D3 O3 c0 c1 c2 c3 c4 c5 lc d0 d1 d2 d3 d4 d5 ld
  clear HD
  obtain ⟨c0, c1, c2, c3, c4, c5⟩ := ou_obj B4.out
  have lc := lt_of_heap B4.out
  obtain ⟨d0, d1, d2, d3, d4, d5⟩ := ou_obj D4.out
  have ld := lt_of_heap D4.out
  go_wp2_with fail
  refine Calls.mono (HR.out _ _ _ K4.out O4.out) ?_
  rintro e w5 ⟨rfl, k5⟩
  have B5 : Hid _ := (k5.block _ (lt_of_heap B4.out) (fun e => e)).trans B4.out
  have D5 : Hid _ := (k5.block _ (lt_of_heap D4.out) (fun e => e)).trans D4.out
  have K5 : Hid (Kept w w5) := K4.out.trans' k5
  have O5 : Hid _ := HO.out _ _ O4.out _ k5
  clear k5 K4 B4 D4 O4 c0 c1 c2 c3 c4 c5 lc d0 d1 d2 d3 d4 d5 ld
  clear HR
  obtain ⟨c0, c1, c2, c3, c4, c5⟩ := ou_obj B5.out
  have lc := lt_of_heap B5.out
  obtain ⟨d0, d1, d2, d3, d4, d5⟩ := ou_obj D5.out
  have ld := lt_of_heap D5.out
  go_wp2_with fail
  refine Calls.mono (HV.out _ _ _ O5.out) ?_
  rintro e w6 ⟨rfl, k6⟩
  have B6 : Hid _ := (k6.block _ (lt_of_heap B5.out) (fun e => e)).trans B5.out
  have D6 : Hid _ := (k6.block _ (lt_of_heap D5.out) (fun e => e)).trans D5.out
  have K6 : Hid (Kept w w6) := K5.out.trans' k6
  have O6 : Hid _ := HO.out _ _ O5.out _ k6
  clear k6 K5 B5 D5 O5 c0 c1 c2 c3 c4 c5 lc d0 d1 d2 d3 d4 d5 ld
  clear HV
  cases ok with
  | false =>
    have ER2 : Hid (RT = ([], 220)) := ER.out
    have HSn : Hid _ := HS.out _ _ _ K6.out O6.out
    clear ER HS HT
    obtain ⟨c0, c1, c2, c3, c4, c5⟩ := ou_obj B6.out
    have lc := lt_of_heap B6.out
    obtain ⟨d0, d1, d2, d3, d4, d5⟩ := ou_obj D6.out
    have ld := lt_of_heap D6.out
    go_wp2_with fail
    refine Calls.mono HSn.out ?_
    rintro e w7 ⟨rfl, k7⟩
    have K7 : Hid (Kept w w7) := K6.out.trans' k7
    rw [ER2.out]
    clear k7 K6 B6 D6 O6 HSn ER2 HO c0 c1 c2 c3 c4 c5 lc d0 d1 d2 d3 d4 d5 ld
    go_wp2_with fail
    go_ret
    exact ⟨rfl, K7.out⟩
  | true =>
    have ER2 : Hid (RT = (OL, 0)) := ER.out
    have HSn : Hid _ := HS.out _ _ _ K6.out O6.out
    clear ER HS
    obtain ⟨c0, c1, c2, c3, c4, c5⟩ := ou_obj B6.out
    have lc := lt_of_heap B6.out
    obtain ⟨d0, d1, d2, d3, d4, d5⟩ := ou_obj D6.out
    have ld := lt_of_heap D6.out
    go_wp2_with fail
    refine Calls.mono HSn.out ?_
    rintro e w7 ⟨rfl, k7⟩
    have B7 : Hid _ := (k7.block _ (lt_of_heap B6.out) (fun e => e)).trans B6.out
    have K7 : Hid (Kept w w7) := K6.out.trans' k7
    rw [ER2.out]
    clear k7 K6 B6 D6 O6 HSn ER2 HO c0 c1 c2 c3 c4 c5 lc d0 d1 d2 d3 d4 d5 ld
    obtain ⟨c0, c1, c2, c3, c4, c5⟩ := ou_obj B7.out
    have lc := lt_of_heap B7.out
    go_wp2_with fail
    refine Calls.mono (HT.out _ K7.out (by first | trivial | rfl)) ?_
    rintro e w8 ⟨v8, rfl, o8, k8⟩
    have hst := own_str o8
    have K8 : Hid (Kept w w8) := Same.trans K7.out k8.1 (fun i hi e => by have := K7.out.size; omega)
    have hre := tx_beq OL OL
    clear o8 k8 K7 B7 HT c0 c1 c2 c3 c4 c5 lc
    go_wp2_with fail
    go_ret
    exact ⟨rfl, K8.out⟩
end Go.Proofs.YtfhaiklfbnfdlaaDoor
