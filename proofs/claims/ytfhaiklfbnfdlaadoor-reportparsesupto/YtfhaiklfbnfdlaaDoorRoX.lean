/- What is proved: the document's Same of two outcomes in memory answers whether they are alike; condition: the lists' lengths. -/
import Derived.Test.YtfhaiklfbnfdlaaDoorRoM
namespace Go.Proofs.YtfhaiklfbnfdlaaDoor
open Go.RowKit

theorem vl_alike (x : Vi.Vl) (w : World) : (binOp .neq 41 (Vi.vlV x) (Vi.vlV x)).run Tryd.prog w = .ok (.bool false) w := by
  obtain ⟨a0, a1, a2, a3, a4, a5, a6, a7, a8, a9, a10, a11⟩ := x
  unfold Vi.vlV
  go_simp
theorem bytes_of_list {a b : ByteArray} (e : a.toList = b.toList) : a = b := by
  apply ByteArray.ext
  rw [ByteArray.toList_eq, ByteArray.toList_eq] at e
  exact Array.toList_inj.1 e
theorem vl_differ (x y : Vi.Vl) (h : x ≠ y) (w : World) : (binOp .neq 41 (Vi.vlV x) (Vi.vlV y)).run Tryd.prog w = .ok (.bool true) w := by
  obtain ⟨a0, a1, a2, a3, a4, a5, a6, a7, a8, a9, a10, a11⟩ := x
  obtain ⟨b0, b1, b2, b3, b4, b5, b6, b7, b8, b9, b10, b11⟩ := y
  unfold Vi.vlV
  go_simp
  intro e0 e1 e2 e3 e4 e5 e6 e7 e8 e9 e10 e11
  exact h (by rw [e0, e1, e2, e3, e4, bytes_of_list e5, e6, bytes_of_list e7, e8, bytes_of_list e9, e10, e11])
theorem ne_int {x y : Int} (h : x ≠ y) : (x == y) = false ∧ (x != y) = true := by
  have := beq_eq_false_iff_ne.2 h
  exact ⟨this, by rw [bne, this]; rfl⟩
set_option maxRecDepth 100000 in
set_option maxHeartbeats 3200000 in
theorem same22_any (w : World) (o p : OuM) (a b : Option Addr) (c d : Nat) (ha : Vi.At Vi.vl1 12 w a o.ls) (hb : Vi.At Vi.vl1 12 w b p.ls) (hn : o.ls.length ≤ 9223372036854775806) (hm : p.ls.length ≤ 9223372036854775806) (r : Bool) (hr : r = true ↔ o = p) :
    Calls Tryd.prog 14 #[ouV o (.slice a o.ls.length c), ouV p (.slice b p.ls.length d)] w fun e w' => e = .returned (.bool r) ∧ Kept w w' := by
  obtain ⟨kd, cd, off, tn, tt, l1⟩ := o
  obtain ⟨kd2, cd2, off2, tn2, tt2, l2⟩ := p
  unfold ouV
  dsimp only at ha hb hn hm ⊢
  obtain ⟨n, en⟩ : ∃ n, n = l1.length := ⟨_, rfl⟩
  obtain ⟨m, em⟩ : ∃ m, m = l2.length := ⟨_, rfl⟩
  have EN : Hid _ := en
  have EM : Hid _ := em
  have OA : Hid (Vi.At Vi.vl1 12 w a l1) := ha
  have OB : Hid (Vi.At Vi.vl1 12 w b l2) := hb
  have HQ : Hid (∀ x w, _) := fun x w => vl_alike x w
  have HD : Hid (∀ x y, x ≠ y → ∀ w, _) := fun x y h w => vl_differ x y h w
  rw [← en] at hn
  rw [← em] at hm
  rw [← en, ← em]
  clear ha hb en em
  by_cases e0 : kd = kd2
  case neg =>
    have NE : Hid (r = false) := by
      show r = false
      cases r with
      | false => rfl
      | true => exact absurd (congrArg OuM.kd (hr.1 rfl)) e0
    clear hr
    (obtain ⟨q0, q1⟩ := ne_int e0; clear e0; go_enter Tryd.func14, Tryd.ntmps14; go_wp2_with fail; go_ret; exact ⟨by rw [NE.out]; rfl, ((Same.refl _ w).alloc _).alloc _⟩)
  subst e0
  by_cases e0 : cd = cd2
  case neg =>
    have NE : Hid (r = false) := by
      show r = false
      cases r with
      | false => rfl
      | true => exact absurd (congrArg OuM.cd (hr.1 rfl)) e0
    clear hr
    (obtain ⟨q0, q1⟩ := ne_int e0; clear e0; go_enter Tryd.func14, Tryd.ntmps14; go_wp2_with fail; go_ret; exact ⟨by rw [NE.out]; rfl, ((Same.refl _ w).alloc _).alloc _⟩)
  subst e0
  by_cases e0 : off = off2
  case neg =>
    have NE : Hid (r = false) := by
      show r = false
      cases r with
      | false => rfl
      | true => exact absurd (congrArg OuM.of (hr.1 rfl)) e0
    clear hr
    (obtain ⟨q0, q1⟩ := ne_int e0; clear e0; go_enter Tryd.func14, Tryd.ntmps14; go_wp2_with fail; go_ret; exact ⟨by rw [NE.out]; rfl, ((Same.refl _ w).alloc _).alloc _⟩)
  subst e0
  by_cases e0 : tn = tn2
  case neg =>
    have NE : Hid (r = false) := by
      show r = false
      cases r with
      | false => rfl
      | true => exact absurd (congrArg OuM.tn (hr.1 rfl)) e0
    clear hr
    (obtain ⟨q0, q1⟩ := ne_int e0; clear e0; go_enter Tryd.func14, Tryd.ntmps14; go_wp2_with fail; go_ret; exact ⟨by rw [NE.out]; rfl, ((Same.refl _ w).alloc _).alloc _⟩)
  subst e0
  by_cases e0 : tt = tt2
  case neg =>
    have NE : Hid (r = false) := by
      show r = false
      cases r with
      | false => rfl
      | true => exact absurd (congrArg OuM.tt (hr.1 rfl)) e0
    clear hr
    (obtain ⟨q0, q1⟩ := ne_int e0; clear e0; go_enter Tryd.func14, Tryd.ntmps14; go_wp2_with fail; go_ret; exact ⟨by rw [NE.out]; rfl, ((Same.refl _ w).alloc _).alloc _⟩)
  subst e0
  by_cases e0 : (n : Int) = (m : Int)
  case neg =>
    have NE : Hid (r = false) := by
      show r = false
      cases r with
      | false => rfl
      | true =>
        have h9 : l1 = l2 := congrArg OuM.ls (hr.1 rfl)
        exact absurd (by rw [EN.out, EM.out, h9]) e0
    clear hr
    (obtain ⟨q0, q1⟩ := ne_int e0; clear e0; go_enter Tryd.func14, Tryd.ntmps14; go_wp2_with fail; go_ret; exact ⟨by rw [NE.out]; rfl, ((Same.refl _ w).alloc _).alloc _⟩)
  obtain rfl : n = m := by omega
  clear e0
  have HR : Hid (r = true ↔ l1 = l2) := ⟨fun h => congrArg OuM.ls (hr.1 h), fun h => hr.2 (by rw [h])⟩
  clear hr hm
  obtain ⟨W2, e2⟩ : ∃ W2, W2 = (w.alloc (.cells #[.int .i64 kd, .int .i64 cd, .int .i64 off, .int .i64 tn, .int .i64 tt, .slice a n c] 25 (0, 0))).alloc (.cells #[.int .i64 kd, .int .i64 cd, .int .i64 off, .int .i64 tn, .int .i64 tt, .slice b n d] 25 (0, 0)) := ⟨_, rfl⟩
  have K2 : Hid (Kept w W2) := by rw [e2]; exact ((Same.refl _ w).alloc _).alloc _
  have BA : Hid (W2.heap[w.heap.size]? = some (.cells #[.int .i64 kd, .int .i64 cd, .int .i64 off, .int .i64 tn, .int .i64 tt, .slice a n c] 25 (0, 0))) := by rw [e2]; exact (two_new w _ _).1
  have BB : Hid (W2.heap[w.heap.size + 1]? = some (.cells #[.int .i64 kd, .int .i64 cd, .int .i64 off, .int .i64 tn, .int .i64 tt, .slice b n d] 25 (0, 0))) := by rw [e2]; exact (two_new w _ _).2
  go_enter Tryd.func14, Tryd.ntmps14
  go_upto_region 1 with fail
  rw [← e2]
  clear e2
  obtain ⟨c0, c1, c2, c3, c4, c5⟩ := ou_obj BA.out
  obtain ⟨d0, d1, d2, d3, d4, d5⟩ := ou_obj BB.out
  have lc := lt_of_heap BA.out
  have ld := lt_of_heap BB.out
  go_wp2_with fail
  clear c0 c1 c2 c3 c4 c5 d0 d1 d2 d3 d4 d5 lc ld
  go_loopw [5] (fun i wr => ∃ j : Nat, i = .int .i64 (j : Int) ∧ j ≤ n ∧ (∀ i, i < j → l1[i]? = l2[i]?) ∧ Kept W2 wr) (fun i _ => n - (intOf i).toNat)
  case atStart => exact ⟨0, rfl, Nat.zero_le _, fun i hi => absurd hi (by omega), Same.refl _ _⟩
  case round =>
    obtain ⟨j, rfl, hj, hal, kk⟩ := hrel
    have HAL : Hid _ := hal
    have XA : Hid _ := (kk.block _ (lt_of_heap BA.out) (fun e => e)).trans BA.out
    have XB : Hid _ := (kk.block _ (lt_of_heap BB.out) (fun e => e)).trans BB.out
    obtain ⟨-, -, -, -, -, c5⟩ := ou_obj XA.out
    obtain ⟨-, -, -, -, -, d5⟩ := ou_obj XB.out
    have lc := lt_of_heap XA.out
    have ld := lt_of_heap XB.out
    have KK : Hid _ := kk
    have KW : Hid (Kept w wr) := K2.out.trans' kk
    clear kk hal
    by_cases hlt : j < n
    · have e1 : decide ((j : Int) < (n : Int)) = true := decide_eq_true (by omega)
      have hlt2 : (j : Int) < (n : Int) := by omega
      obtain ⟨x, he⟩ : ∃ x, l1[j]? = some x := ⟨_, List.getElem?_eq_getElem (by rw [← EN.out]; exact hlt)⟩
      obtain ⟨y, hf⟩ : ∃ y, l2[j]? = some y := ⟨_, List.getElem?_eq_getElem (by rw [← EM.out]; exact hlt)⟩
      obtain ⟨b1, o1, rfl, hx, q0, q1, q2, q3, q4, q5, q6, q7, q8, q9, q10, q11⟩ := Vi.At.vl (Vi.At.on OA.out KW.out) he
      obtain ⟨b2, o2, rfl, hy, r0, r1, r2, r3, r4, r5, r6, r7, r8, r9, r10, r11⟩ := Vi.At.vl (Vi.At.on OB.out KW.out) hf
      have hj1 : (j : Int) + 1 ≤ 9223372036854775807 := by omega
      by_cases hop : x = y
      · subst hop
        have hq := HQ.out x
        unfold Vi.vlV at hq
        have HEQ : Hid (l1[j]? = l2[j]?) := he.trans hf.symm
        clear he hf
        go_wp2_with fail
        go_quiet (fail)
        go_wp2_with fail
        go_roundw
        case rel =>
          refine ⟨j + 1, by congr 1, hlt, fun i hi => ?_, KK.out.drewN _⟩
          by_cases h : i < j
          · exact HAL.out i h
          · obtain rfl : i = j := by omega
            exact HEQ.out
        case measure => simp only [intOf]; omega
      · have hq := HD.out x y hop
        have NE : Hid (r = false) := by
          show r = false
          cases r with
          | false => rfl
          | true =>
            have h9 : l1 = l2 := HR.out.1 rfl
            rw [h9, hf] at he
            exact absurd (Option.some.inj he).symm hop
        unfold Vi.vlV at hq
        clear he hf hop
        go_wp2_with fail
        go_quiet (fail)
        go_wp2_with fail
        go_ret
        exact ⟨by rw [NE.out]; rfl, KW.out.drewN _⟩
    · obtain rfl : j = n := by omega
      have e1 : decide ((j : Int) < (j : Int)) = false := decide_eq_false (by omega)
      have YE : Hid (r = true) := HR.out.2 (by
        apply List.ext_getElem?
        intro i
        by_cases h : i < j
        · exact HAL.out i h
        · rw [List.getElem?_eq_none (by rw [← EN.out]; omega), List.getElem?_eq_none (by rw [← EM.out]; omega)])
      go_wp2_with fail
      go_ret
      exact ⟨by rw [YE.out]; rfl, KW.out⟩
end Go.Proofs.YtfhaiklfbnfdlaaDoor
