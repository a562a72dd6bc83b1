/- What is proved: the law MachineSerial answers true, and all that was there stays as it was; the script lies in memory. -/
import Derived.Test.YtmlefbpdlgnkgabKSrM
namespace Go.Proofs.Ytmlefbpdlgnkgab
open Go.RowKit

theorem ser_len {dn nw : List Stp} {M : Mm} (h : Ser dn nw M) : dn.length + nw.length ≤ 100000 := by
  have h1 := h.dl
  have h2 := h.ok.inv.cnt
  have h3 := h.ok.inv.b1
  have h4 := h.nl
  omega
set_option maxRecDepth 100000 in
set_option maxHeartbeats 6400000 in
theorem serial_law {w : World} {a : Option Addr} {l : List Stp} {cap : Nat} (hl : StepsAt w a l) (hs : SmallS l) (hn : l.length ≤ 9223372036854775807) :
    Calls Try.prog 4 #[.slice a l.length cap] w fun e w' => e = .returned (.bool true) ∧ Kept w w' := by
  have HAN : Hid _ := anchor15 w
  have HNW : Hid (∀ W, Calls Try.prog 12 #[.int .i64 1, .int .i64 0] W fun e w' => ∃ mb, e = .returned (.tuple #[.pointer (some ⟨mb, 0, none⟩), .int .i64 0]) ∧ MkN W w' mb (newM 1 0)) := fun W => newN W 1 (by decide) (by decide)
  have HL : Hid (StepsAt w a l) := hl
  have HS : Hid (SmallS l) := hs
  clear hl hs
  obtain ⟨n, en⟩ : ∃ n, n = l.length := ⟨_, rfl⟩
  have EN : Hid (n = l.length) := en
  rw [← en] at hn ⊢
  clear en
  go_enter Try.func4, Try.ntmps4
  go_wp2_with fail
  refine Calls.mono HAN.out ?_
  rintro e w0 ⟨rfl, k0⟩
  have K0 : Hid (Kept w w0) := k0
  clear k0 HAN
  go_wp2_with fail
  refine Calls.mono (HNW.out w0) ?_
  rintro e w1 ⟨mb, rfl, m1⟩
  have S1 : Hid (Sl w w1 mb (newM 1 0) (.slice none 0 0) (.slice none 0 0) [] []) := by
    obtain ⟨F, h1, h2, h3⟩ := MkN.behind K0.out m1
    exact ⟨⟨F, h1, h2, h3, fun b hb => by rcases hb with hb | hb <;> cases hb⟩, OwnS.nil _ _, OwnS.nil _ _, fun b hb => by cases hb⟩
  clear m1 HNW
  go_upto_region 8 with fail
  go_loopw [5, 6, 28] (fun dv nv i wr => ∃ (j : Nat) (dn nw : List Stp) (M : Mm), j ≤ n ∧ i = .int .i64 (j : Int) ∧ Sl w wr mb M dv nv dn nw ∧ Ser dn nw M) (fun _ _ i _ => n - (intOf i).toNat)
  case atStart => exact ⟨0, [], [], newM 1 0, Nat.zero_le _, rfl, S1.out, Ser.new⟩
  case round =>
    rename Value => nv0
    obtain ⟨j, dn, nw, M, hj, rfl, sj, rj⟩ := hrel
    have SJ : Hid (Sl w wr mb M _ _ dn nw) := sj
    have RJ : Hid (Ser dn nw M) := rj
    obtain ⟨da, dc, ed, -⟩ := row_shape sj.d
    obtain ⟨na, nc, eNv, -⟩ := row_shape sj.n
    subst ed eNv
    have hdl : dn.length + nw.length ≤ 100000 := ser_len rj
    have hnl : nw.length ≤ 16 := rj.nl
    clear sj rj S1
    by_cases hlt : j < n
    · have c1 : decide ((j : Int) < (n : Int)) = true := by simp only [decide_eq_true_eq]; omega
      have hlt2 : (j : Int) < (n : Int) := by omega
      obtain ⟨s, hsj⟩ : ∃ s, l[j]? = some s := ⟨_, List.getElem?_eq_getElem (by rw [← EN.out]; exact hlt)⟩
      obtain ⟨b, off, rfl, hb, q0, q1, q2, q3, q4⟩ := (StepsAt.on HL.out (Sl.le SJ.out)) j s hsj
      obtain ⟨hsk, hsv⟩ := HS.out s (List.mem_of_getElem? hsj)
      obtain ⟨A, c, M', x1, x2⟩ : ∃ A c M', doM M ⟨s.kind, 0, s.gap, s.key, s.value⟩ = (M', A) ∧ codeD M ⟨s.kind, 0, s.gap, s.key, s.value⟩ = c := ⟨_, _, _, rfl, rfl⟩
      have D1 : Hid _ := Sl.doS SJ.out (.cells #[.int .i64 s.kind, .int .i64 0, .int .i64 s.gap, .string s.key, .string s.value] 33 (0, 0)) s.kind 0 s.gap s.key s.value hsk hsv x1 x2
      have HSTEP : Hid (c = 0 → (s.kind = 1 → Ser dn [] M') ∧ (s.kind = 6 → Ser dn [] M') ∧ (s.kind = 3 ∨ s.kind = 4 → Ser dn (nw ++ [⟨s.kind, 0, s.gap, s.key, s.value⟩]) M') ∧ (s.kind = 5 → Ser (dn ++ nw) [] M' ∧ A.status = 1) ∧ (s.kind = 2 → Ser dn nw M' ∧ A = lst (dn ++ nw) s.key)) := fun hc => by
        have h9 := Ser.step RJ.out (x2.trans hc)
        rw [x1] at h9
        exact h9
      have HNO : Hid (c ≠ 0 → Ser dn nw M') := fun hc => by
        have h9 := do_no (M := M) (s := ⟨s.kind, 0, s.gap, s.key, s.value⟩) (by rw [x2]; exact hc)
        rw [x1] at h9
        cases h9
        exact RJ.out
      have HKD : Hid (c = 0 → 1 ≤ s.kind ∧ s.kind ≤ 6) := fun hc => (codeB_zero (codeD_zero (x2.trans hc)).1).1
      clear hsj x1 x2 RJ
      generalize s.kind = kd at *
      generalize s.gap = gp at *
      generalize s.key = kk at *
      generalize s.value = vv at *
      go_wp2_with fail
      refine Calls.mono D1.out ?_
      rintro r w2 ⟨rfl, s2, b2⟩
      have HBX : Hid (StB w2 wr.heap.size kd 0 gp kk vv) := b2
      have S2 : Hid (Sl w w2 mb M' _ _ dn nw) := s2
      have K3 : Hid (Kept w2 (w2.alloc (.cells #[.bool A.found, .string A.value, .int .i64 A.status] 28 (0, 0)))) := (Same.refl _ _).alloc _
      have S3 : Hid (Sl w (w2.alloc (.cells #[.bool A.found, .string A.value, .int .i64 A.status] 28 (0, 0))) mb M' _ _ dn nw) := Sl.on s2 K3.out
      have HB3 : Hid (StB (w2.alloc (.cells #[.bool A.found, .string A.value, .int .i64 A.status] 28 (0, 0))) wr.heap.size kd 0 gp kk vv) := StB.on b2 K3.out
      have HA3 : Hid (AnB (w2.alloc (.cells #[.bool A.found, .string A.value, .int .i64 A.status] 28 (0, 0))) w2.heap.size A) := heap_new _ _
      clear s2 b2 D1
      go_upto_region 12 with fail
      generalize w2.alloc (.cells #[.bool A.found, .string A.value, .int .i64 A.status] 28 (0, 0)) = W3 at *
      generalize w2.heap.size = g9 at *
      generalize wr.heap.size = g8 at *
      obtain ⟨hg8, y0, y1, y2, y3, y4⟩ := StB.cells HB3.out
      obtain ⟨⟨z0, z1, z2⟩, hg9, -⟩ := AnB.cells HA3.out
      by_cases hc : c = 0
      · subst hc
        obtain ⟨t1, t6, t34, t5, t2⟩ := HSTEP.out rfl
        have hkd := HKD.out rfl
        have hk6 : kd = 1 ∨ kd = 2 ∨ kd = 3 ∨ kd = 4 ∨ kd = 5 ∨ kd = 6 := by omega
        clear HSTEP HNO HKD hkd
        rcases hk6 with rfl | rfl | rfl | rfl | rfl | rfl
        · have T : Hid (Ser dn [] M') := t1 rfl
          clear t1 t6 t34 t5 t2
          go_wp2_with fail
          go_roundw
          case rel => exact ⟨j + 1, dn, [], M', by omega, by first | rfl | simp, Sl.clear S3.out, T.out⟩
          case measure => simp only [intOf]; omega
        · obtain ⟨t2a, t2b⟩ := t2 rfl
          have T : Hid (Ser dn nw M') := t2a
          have TB : Hid (A = lst (dn ++ nw) kk) := t2b
          clear t1 t6 t34 t5 t2 t2a t2b
          have K4 : Hid (Kept W3 (W3.alloc (.cells #[.bool false, .string ⟨#[]⟩, .int .i64 0] 28 (0, 0)))) := (Same.refl _ _).alloc _
          have HB4 : Hid (AnB (W3.alloc (.cells #[.bool false, .string ⟨#[]⟩, .int .i64 0] 28 (0, 0))) W3.heap.size an0) := heap_new _ _
          go_upto_region 27 with fail
          generalize hW4 : W3.alloc (.cells #[.bool false, .string ⟨#[]⟩, .int .i64 0] 28 (0, 0)) = W4 at *
          have hg11 : W3.heap.size ≤ W3.heap.size := Nat.le_refl _
          obtain ⟨g11, eg11⟩ : ∃ g11, g11 = W3.heap.size := ⟨_, rfl⟩
          rw [← eg11] at HB4 hg11 ⊢
          have hg11' : W3.heap.size ≤ g11 := Nat.le_of_eq eg11.symm
          clear eg11 hg11 hW4
          have S4 : Hid (Sl w W4 mb M' _ _ dn nw) := Sl.on S3.out K4.out
          have HAP1 : Hid (∀ ty, ∃ v' w', (Builtin.append_ #[22, 22] ty #[.slice (some ⟨W4.heap.size, 0, none⟩) 0 0, .slice da dn.length dc]).run Try.prog (W4.alloc (.cells #[] 33)) = .ok v' w' ∧ (OwnS W4.heap.size w' v' dn ∧ Kept W4 w')) := fun ty => by
            have k5 : Kept W4 (W4.alloc (.cells #[] 33 (0, 0))) := (Same.refl _ _).alloc _
            obtain ⟨v', w', r0, r1, r2, -⟩ := app_steps (xs := []) (base := W4.heap.size) (World.ownsRow_made W4 #[] 0 (Nat.le_refl _) (Nat.zero_le _) (by simp)) (row_kept (Sl.d S4.out) k5 fun _ _ e => e) (by simp; omega) (by rw [World.size_alloc]; omega) ty
            rw [List.nil_append] at r1
            refine ⟨v', w', r0, r1, ((Kept.to k5 _).trans' r2).mono fun k hk e => ?_⟩
            simp only [Value.ownBlock, Option.some.injEq] at e
            omega
          have HAP2 : Hid (∀ v1 w6, (OwnS W4.heap.size w6 v1 dn ∧ Kept W4 w6) → ∀ ty, ∃ v' w', (Builtin.append_ #[22, 22] ty #[v1, .slice na nw.length nc]).run Try.prog w6 = .ok v' w' ∧ (OwnS W4.heap.size w' v' (dn ++ nw) ∧ Kept W4 w')) := fun v1 w6 hv ty => by
            obtain ⟨v', w', r0, r1, r2, -⟩ := app_steps hv.1 (row_kept (Sl.n S4.out) hv.2 fun _ _ e => e) hdl hv.2.size ty
            refine ⟨v', w', r0, r1, hv.2.trans r2 fun b hb e => ?_⟩
            have := (row_block hv.1 e).1
            omega
          have HTL : Hid ((dn ++ nw).length ≤ 100000) := by show (dn ++ nw).length ≤ 100000; rw [List.length_append]; exact hdl
          generalize edl : dn.length = dl at *
          generalize enl : nw.length = nl at *
          clear edl enl
          go_wp2_with (at_builtin; apply Hid.out)
          refine wpList_app rfl (.tmp 64) (.tmp 65) 22 rfl _ _ rfl rfl _ HAP1.out ?_
          rintro v1 w6 hr6
          have HR6 : Hid _ := HAP2.out v1 w6 hr6
          obtain ⟨va1, vc1, rfl, -⟩ := row_shape hr6.1
          clear hr6
          generalize dn.length = dl1 at *
          go_wp2_with (at_builtin; apply Hid.out)
          refine wpList_app rfl (.tmp 66) (.tmp 67) 22 rfl _ _ rfl rfl _ HR6.out ?_
          rintro v2 w7 hr7
          obtain ⟨va2, vc2, rfl, -⟩ := row_shape hr7.1
          have HT7 : Hid (OwnS W4.heap.size w7 (.slice va2 (dn ++ nw).length vc2) (dn ++ nw)) := hr7.1
          have K7 : Hid (Kept W4 w7) := hr7.2
          clear hr7 HR6 HAP1 HAP2
          obtain ⟨m, em⟩ : ∃ m, m = (dn ++ nw).length := ⟨_, rfl⟩
          have EM : Hid (m = (dn ++ nw).length) := em
          have hm : m ≤ 100000 := by rw [em]; exact HTL.out
          rw [← em] at HT7 ⊢
          clear em
          generalize dn ++ nw = TT at *
          have HB7 : Hid (AnB w7 g11 an0) := (Same.block K7.out g11 (lt_of_heap HB4.out) (fun e => e)).trans HB4.out
          go_wp2_with fail
          go_loopw [70] (fun i wy => ∃ q : Nat, q ≤ m ∧ i = .int .i64 (q : Int) ∧ AnB wy g11 (lstA an0 (TT.take q) kk) ∧ Same (fun b => b = g11) w7 wy) (fun i _ => m - (intOf i).toNat)
          case atStart => exact ⟨0, Nat.zero_le _, rfl, HB7.out, Same.refl _ _⟩
          case round =>
            rename World => wy
            obtain ⟨q, hq, rfl, bq, sq⟩ := hrel
            have BQ : Hid (AnB wy g11 (lstA an0 (TT.take q) kk)) := bq
            have SQ : Hid (Same (fun b => b = g11) w7 wy) := sq
            have hTq : OwnS W4.heap.size wy (.slice va2 m vc2) TT := row_kept HT7.out sq fun b hb e => by
              subst e
              obtain ⟨-, cur, hc⟩ := row_block HT7.out hb
              exact types_ne HB7.out hc (by decide)
            have HTQ : Hid (StepsAt wy va2 TT) := OwnS.steps hTq
            have K8 : Hid (Kept W3 wy) := (Same.trans' K4.out K7.out).trans sq fun b hb e => by omega
            have HBY : Hid (StB wy g8 2 0 gp kk vv) := StB.on HB3.out K8.out
            have HAY : Hid (AnB wy g9 A) := (Same.block K8.out g9 (lt_of_heap HA3.out) (fun e => e)).trans HA3.out
            clear bq sq hTq
            by_cases hlq : q < m
            · have c1 : decide ((q : Int) < (m : Int)) = true := by simp only [decide_eq_true_eq]; omega
              have hlt2 : (q : Int) < (m : Int) := by omega
              obtain ⟨s2, hs2⟩ : ∃ s2, TT[q]? = some s2 := ⟨_, List.getElem?_eq_getElem (by rw [← EM.out]; exact hlq)⟩
              obtain ⟨b2, off2, rfl, hb2, p0, p1, p2, p3, p4⟩ := HTQ.out q s2 hs2
              have HTK : Hid _ := lstA_take hs2 an0 kk
              have KX : Hid (Kept wy (wy.alloc (.cells #[.int .i64 s2.kind, .int .i64 s2.ses, .int .i64 s2.gap, .string s2.key, .string s2.value] 33 (0, 0)))) := (Same.refl _ _).alloc _
              have HB13 : Hid (StB (wy.alloc (.cells #[.int .i64 s2.kind, .int .i64 s2.ses, .int .i64 s2.gap, .string s2.key, .string s2.value] 33 (0, 0))) wy.heap.size s2.kind s2.ses s2.gap s2.key s2.value) := heap_new _ _
              have HBX2 : Hid (AnB (wy.alloc (.cells #[.int .i64 s2.kind, .int .i64 s2.ses, .int .i64 s2.gap, .string s2.key, .string s2.value] 33 (0, 0))) g11 (lstA an0 (TT.take q) kk)) := (Same.block KX.out g11 (lt_of_heap BQ.out) (fun e => e)).trans BQ.out
              have HBZ : Hid (StB (wy.alloc (.cells #[.int .i64 s2.kind, .int .i64 s2.ses, .int .i64 s2.gap, .string s2.key, .string s2.value] 33 (0, 0))) g8 2 0 gp kk vv) := StB.on HBY.out KX.out
              have SX : Hid (Same (fun b => b = g11) w7 (wy.alloc (.cells #[.int .i64 s2.kind, .int .i64 s2.ses, .int .i64 s2.gap, .string s2.key, .string s2.value] 33 (0, 0)))) := Same.alloc SQ.out _
              have hne : ¬ wy.heap.size = g11 := fun e => by have := lt_of_heap BQ.out; omega
              have hne2 : ¬ g8 = g11 := fun e => by have := lt_of_heap HB3.out; omega
              clear hs2
              go_upto_region 30 with fail
              generalize wy.alloc (.cells #[.int .i64 s2.kind, .int .i64 s2.ses, .int .i64 s2.gap, .string s2.key, .string s2.value] 33 (0, 0)) = WY at *
              generalize wy.heap.size = g13 at *
              obtain ⟨hg13, r0, r1, r2, r3, r4⟩ := StB.cells HB13.out
              obtain ⟨hg8', o0, o1, o2, o3, o4⟩ := StB.cells HBZ.out
              obtain ⟨⟨d0, d1, d2⟩, hg11x, v0, v1, v2⟩ := AnB.cells HBX2.out
              by_cases hk : (s2.key.toList == kk.toList) = true
              · have HN : Hid (lstA an0 (TT.take (q + 1)) kk = ansS s2) := by
                  show _ = _
                  rw [show lstA an0 (TT.take (q + 1)) kk = _ from HTK.out, if_pos hk]
                by_cases h3 : s2.kind = 3
                · have f3 : (s2.kind == 3) = true := by simpa using h3
                  have HN2 : Hid (ansS s2 = ⟨true, s2.value, 0⟩) := by show ansS s2 = _; unfold ansS; simp [h3]
                  clear h3
                  go_wp2_with fail
                  go_roundw
                  case rel =>
                    refine ⟨q + 1, by omega, by first | rfl | simp, ?_, ?_⟩
                    · rw [show lstA an0 (TT.take (q + 1)) kk = _ from HN.out, show ansS s2 = _ from HN2.out]
                      simpa [AnB] using setCell_at (AnB.put HBX2.out ⟨true, ⟨#[]⟩, 0⟩) 1 (.string s2.value)
                    · exact Same.setCell (put3_same SX.out (.inr rfl) _ _ _) ⟨g11, 1, none⟩ (.inr rfl) _
                  case measure => simp only [intOf]; omega
                · have f3 : (s2.kind == 3) = false := by simpa using h3
                  have HN2 : Hid (ansS s2 = ⟨false, ⟨#[]⟩, 0⟩) := by show ansS s2 = _; unfold ansS; simp [h3]
                  clear h3
                  go_wp2_with fail
                  go_roundw
                  case rel =>
                    refine ⟨q + 1, by omega, by first | rfl | simp, ?_, ?_⟩
                    · rw [show lstA an0 (TT.take (q + 1)) kk = _ from HN.out, show ansS s2 = _ from HN2.out]
                      exact AnB.put HBX2.out ⟨false, ⟨#[]⟩, 0⟩
                    · exact put3_same SX.out (.inr rfl) _ _ _
                  case measure => simp only [intOf]; omega
              · have hk' : (s2.key.toList == kk.toList) = false := by simpa using hk
                have HN : Hid (lstA an0 (TT.take (q + 1)) kk = lstA an0 (TT.take q) kk) := by
                  show _ = _
                  rw [show lstA an0 (TT.take (q + 1)) kk = _ from HTK.out, if_neg hk]
                clear hk
                go_wp2_with fail
                go_roundw
                case rel => exact ⟨q + 1, by omega, by first | rfl | simp, by rw [show lstA an0 (TT.take (q + 1)) kk = _ from HN.out]; exact HBX2.out, SX.out⟩
                case measure => simp only [intOf]; omega
            · have c1 : decide ((q : Int) < (m : Int)) = false := by simp only [decide_eq_false_iff_not]; omega
              obtain rfl : m = q := by omega
              have HBE : Hid (AnB wy g11 A) := by
                have h9 := BQ.out
                rw [show TT.take m = TT by rw [show m = TT.length from EM.out]; exact List.take_length] at h9
                have h8 : A = lstA an0 TT kk := TB.out
                show AnB wy g11 A
                rw [h8]
                exact h9
              obtain ⟨⟨d0, d1, d2⟩, hg11x, -⟩ := AnB.cells HBE.out
              obtain ⟨⟨y0', y1', y2'⟩, hg9x, -⟩ := AnB.cells HAY.out
              have nv : (A.value.toList == A.value.toList) = true := by simp
              go_wp2_with fail
              go_roundw
              case rel => exact ⟨j + 1, dn, nw, M', by omega, by first | rfl | simp, Sl.on S3.out K8.out, T.out⟩
              case measure => simp only [intOf]; omega
        · have T : Hid (Ser dn (nw ++ [⟨3, 0, gp, kk, vv⟩]) M') := t34 (.inl rfl)
          have HAP : Hid (∀ ty, ∃ v' w', (Builtin.append_ #[22, 22] ty #[.slice na nw.length nc, .slice (some ⟨W3.heap.size, 0, none⟩) 1 1]).run Try.prog (W3.alloc (.cells #[.int .i64 3, .int .i64 0, .int .i64 gp, .string kk, .string vv] 33 (0, 0))) = .ok v' w' ∧ Sl w w' mb M' _ v' dn (nw ++ [⟨3, 0, gp, kk, vv⟩])) := fun ty => Sl.app S3.out ((Same.refl _ _).alloc _) (s := ⟨3, 0, gp, kk, vv⟩) (heap_new W3 _) hnl ty
          clear t1 t6 t34 t5 t2
          generalize dn.length = dl at *
          generalize nw.length = nl at *
          go_wp2_with (at_builtin; refine wpList_app rfl (.tmp 49) (.tmp 51) 22 rfl _ _ rfl rfl _ HAP.out ?_; rintro v' w6 hr1; have HR1 : Hid _ := hr1; clear hr1)
          go_roundw
          case rel => exact ⟨j + 1, dn, _, M', by omega, by first | rfl | simp, HR1.out, T.out⟩
          case measure => simp only [intOf]; omega
        · have T : Hid (Ser dn (nw ++ [⟨4, 0, gp, kk, vv⟩]) M') := t34 (.inr rfl)
          have HAP : Hid (∀ ty, ∃ v' w', (Builtin.append_ #[22, 22] ty #[.slice na nw.length nc, .slice (some ⟨W3.heap.size, 0, none⟩) 1 1]).run Try.prog (W3.alloc (.cells #[.int .i64 4, .int .i64 0, .int .i64 gp, .string kk, .string vv] 33 (0, 0))) = .ok v' w' ∧ Sl w w' mb M' _ v' dn (nw ++ [⟨4, 0, gp, kk, vv⟩])) := fun ty => Sl.app S3.out ((Same.refl _ _).alloc _) (s := ⟨4, 0, gp, kk, vv⟩) (heap_new W3 _) hnl ty
          clear t1 t6 t34 t5 t2
          generalize dn.length = dl at *
          generalize nw.length = nl at *
          go_wp2_with (at_builtin; refine wpList_app rfl (.tmp 49) (.tmp 51) 22 rfl _ _ rfl rfl _ HAP.out ?_; rintro v' w6 hr1; have HR1 : Hid _ := hr1; clear hr1)
          go_roundw
          case rel => exact ⟨j + 1, dn, _, M', by omega, by first | rfl | simp, HR1.out, T.out⟩
          case measure => simp only [intOf]; omega
        · obtain ⟨t5a, t5b⟩ := t5 rfl
          have T : Hid (Ser (dn ++ nw) [] M') := t5a
          have HAP : Hid (∀ ty, ∃ v' w', (Builtin.append_ #[22, 22] ty #[.slice da dn.length dc, .slice na nw.length nc]).run Try.prog W3 = .ok v' w' ∧ Sl w w' mb M' v' (.slice none 0 0) (dn ++ nw) []) := fun ty => Sl.com S3.out (Same.refl _ _) hdl ty
          rw [t5b] at z2
          clear t1 t6 t34 t5 t2 t5a t5b
          generalize dn.length = dl at *
          generalize nw.length = nl at *
          go_wp2_with (at_builtin; refine wpList_app rfl (.tmp 58) (.tmp 59) 22 rfl _ _ rfl rfl _ HAP.out ?_; rintro v' w6 hr1; have HR1 : Hid _ := hr1; clear hr1)
          go_roundw
          case rel => exact ⟨j + 1, _, [], M', by omega, by first | rfl | simp, HR1.out, T.out⟩
          case measure => simp only [intOf]; omega
        · have T : Hid (Ser dn [] M') := t6 rfl
          clear t1 t6 t34 t5 t2
          go_wp2_with fail
          go_roundw
          case rel => exact ⟨j + 1, dn, [], M', by omega, by first | rfl | simp, Sl.clear S3.out, T.out⟩
          case measure => simp only [intOf]; omega
      · have T : Hid (Ser dn nw M') := HNO.out hc
        have f1 : (c == 0) = false := by simpa using hc
        have f2 : (c != 0) = true := by unfold bne; rw [f1]; rfl
        clear HSTEP HNO HKD
        go_wp2_with fail
        go_roundw
        case rel => exact ⟨j + 1, dn, nw, M', by omega, by first | rfl | simp, S3.out, T.out⟩
        case measure => simp only [intOf]; omega
    · have c1 : decide ((j : Int) < (n : Int)) = false := by simp only [decide_eq_false_iff_not]; omega
      obtain rfl : n = j := by omega
      go_wp2_with fail
      go_ret
      exact ⟨rfl, Sl.le SJ.out⟩
end Go.Proofs.Ytmlefbpdlgnkgab
