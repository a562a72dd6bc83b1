/- What is proved: the law MachineFirst answers true, and all that was there stays as it was; the script lies in memory. -/
import Derived.Test.YtmlefbpdlgnkgaaKFree
namespace Go.Proofs.Ytmlefbpdlgnkgaa
open Go.RowKit

theorem plM_ok {n : Nat} (l : List Stp) {M : Mm} (h : Ok n M) : Ok n (plM M l) := by
  induction l generalizing M with
  | nil => exact h
  | cons s r ih => exact ih (h.step s)
theorem freeB_true {M : Mm} (h : freeB M = true) : (M.at 3).act = none ∧ M.clock < 549755813888 ∧ M.log.length < 4000 := by
  unfold freeB at h
  simp only [Bool.and_eq_true, Bool.not_eq_true', decide_eq_true_eq] at h
  refine ⟨?_, h.1.2, h.2⟩
  have h1 := h.1.1
  cases e : (M.at 3).act with
  | none => rfl
  | some a => rw [e] at h1; cases h1
theorem isSome_false {α : Type} {o : Option α} (h : o.isSome = false) : o = none := by cases o <;> simp_all
theorem Sx.of {n : Nat} {M : Mm} (h : Ok n M) : Sx n M M.clock M.A M.log.length (fun j => (M.at j).act) := ⟨h, rfl, rfl, rfl, fun _ => rfl⟩
theorem le_of_av {M : Mm} (h : Inv M) : ∀ e ∈ M.A, e.x.c ≤ M.clock := fun e he => (h.av e he).2
set_option maxRecDepth 100000 in
set_option maxHeartbeats 6400000 in
theorem first_law {w : World} {a : Option Addr} {l : List Stp} {cap : Nat} (hl : StepsAt w a l) (hs : SmallS l) (hn : l.length ≤ 9223372036854775807) (k : ByteArray) (hk : k.size ≤ maxLen) (later : Bool) :
    Calls Try.prog 7 #[.slice a l.length cap, .string k, .bool later] w fun e w' => e = .returned (.bool true) ∧ Kept w w' := by
  have HAN : Hid _ := anchor15 w
  have HPL : Hid (∀ W, Kept w W → Calls Try.prog 24 #[.slice a l.length cap] W fun e w' => ∃ mb, e = .returned (.pointer (some ⟨mb, 0, none⟩)) ∧ MkN W w' mb (plM (newM 4 0) l)) := fun W k' => played15 (hl.on k') hs hn
  have hok0 : Ok 4 (plM (newM 4 0) l) := plM_ok l (Ok.new (by decide) (by decide))
  have hks : (k.size : Int) ≤ 9223372036854775807 := by unfold maxLen at hk; omega
  have HKM : Hid (k.size ≤ maxLen) := hk
  clear hl hs hn hk
  generalize plM (newM 4 0) l = M0 at *
  generalize l.length = ln at *
  -- what comes behind the check of session 2
  obtain ⟨b2, eb2⟩ : ∃ b, (M0.at 2).act.isSome = b := ⟨_, rfl⟩
  obtain ⟨MA, eMA⟩ : ∃ MA, MA = if b2 = true then (doM M0 ⟨6, 2, 0, e0, e0⟩).1 else M0 := ⟨_, rfl⟩
  have hokA : Ok 4 MA := by
    rw [eMA]
    split
    · exact hok0.step _
    · exact hok0
  obtain ⟨M', eM'⟩ : ∃ M', freeM MA = M' := ⟨_, rfl⟩
  obtain ⟨fr, efr⟩ : ∃ fr, freeB M' = fr := ⟨_, rfl⟩
  have hok' : Ok 4 M' := by rw [← eM']; exact hokA.free
  obtain ⟨b2', eb2'⟩ : ∃ b, (M'.at 2).act.isSome = b := ⟨_, rfl⟩
  have HA2 : Hid (∀ w0 W mb, MkN w0 W mb M0 → Calls Try.prog 13 #[.pointer (some ⟨mb, 0, none⟩), .int .i64 2] W fun e w'' => e = .returned (.bool b2) ∧ w'' = W) := fun w0 W mb h => MkN.activeN h (by rw [hok0.len]; decide) eb2
  have HAB : Hid (b2 = true → ∀ w0 W mb, MkN w0 W mb M0 → Calls Try.prog 26 #[.pointer (some ⟨mb, 0, none⟩), .agg #[.int .i64 6, .int .i64 2, .int .i64 0, .string e0, .string e0]] W fun r w'' => (∃ (A : An) (c : Int), r = .returned (.tuple #[.agg #[.bool A.found, .string A.value, .int .i64 A.status], .int .i64 c])) ∧ MkN w0 w'' mb MA) := fun hb w0 W mb h => by
    refine Calls.mono (MkN.doN h 6 2 0 e0 e0 (by decide) (by decide) rfl rfl) fun r w'' hr => ⟨⟨_, _, hr.1⟩, ?_⟩
    rw [eMA, if_pos hb]
    exact hr.2
  have HNA : Hid (b2 = false → MA = M0) := fun hb => by rw [eMA, if_neg (by rw [hb]; decide)]
  have HFR : Hid (∀ w0 W mb, MkN w0 W mb MA → Calls Try.prog 25 #[.pointer (some ⟨mb, 0, none⟩)] W fun e w'' => e = .returned (.bool fr) ∧ MkN w0 w'' mb M') := fun w0 W mb h => free15 h hokA eM' efr
  have HA3 : Hid (∀ w0 W mb, MkN w0 W mb M' → Calls Try.prog 13 #[.pointer (some ⟨mb, 0, none⟩), .int .i64 2] W fun e w'' => e = .returned (.bool b2') ∧ w'' = W) := fun w0 W mb h => MkN.activeN h (by rw [hok'.len]; decide) eb2'
  have HPLN : Hid (fr = true → b2' = false → Sx 4 M' M'.clock M'.A M'.log.length (fun j => (M'.at j).act) ∧ (M'.at 2).act = none ∧ (M'.at 3).act = none ∧ M'.clock < 549755813888 ∧ 0 ≤ M'.clock ∧ M'.log.length < 4000 ∧ (∀ e ∈ M'.A, e.x.c ≤ M'.clock)) := fun h1 h2 => by
    obtain ⟨f1, f2, f3⟩ := freeB_true (efr.trans h1)
    exact ⟨Sx.of hok', isSome_false (eb2'.trans h2), f1, f2, hok'.inv.c0, f3, le_of_av hok'.inv⟩
  clear eb2 eMA eM' efr eb2' hok0 hokA hok'
  go_enter Try.func7, Try.ntmps7
  go_wp2_with fail
  refine Calls.mono HAN.out ?_
  rintro e w0 ⟨rfl, k0⟩
  have K0 : Hid (Kept w w0) := k0
  clear k0 HAN
  go_wp2_with fail
  refine Calls.mono (HPL.out w0 K0.out) ?_
  rintro e w1 ⟨mb, rfl, m1⟩
  have MA1 : Hid (MkN w w1 mb M0) := MkN.behind K0.out m1
  clear m1 HPL
  go_wp2_with fail
  refine Calls.mono (HA2.out w w1 mb MA1.out) ?_
  rintro e w2 ⟨rfl, h2⟩
  subst w2
  cases b2 with
  | true =>
    go_wp2_with fail
    refine Calls.mono (HAB.out (by simp) w w1 mb MA1.out) ?_
    rintro e w2 ⟨⟨A2, cd2, rfl⟩, m2⟩
    have MB : Hid (MkN w w2 mb MA) := m2
    clear m2 MA1
    go_wp2_with fail
    refine Calls.mono (HFR.out w _ mb MB.out) ?_
    rintro e w3 ⟨rfl, m3⟩
    have M3 : Hid (MkN w w3 mb M') := m3
    clear m3 HFR HAB HA2 HNA MB
    cases fr with
    | false =>
      go_wp2_with fail
      go_ret
      exact ⟨rfl, MkN.kept M3.out⟩
    | true =>
      go_wp2_with fail
      refine Calls.mono (HA3.out w _ mb M3.out) ?_
      rintro e w4 ⟨rfl, h4⟩
      subst w4
      cases b2' with
      | true =>
        go_wp2_with fail
        go_ret
        exact ⟨rfl, MkN.kept M3.out⟩
      | false =>
        obtain ⟨s0, hS2, hS3, hc1, hc0, hl4, hav⟩ := HPLN.out (by simp) (by simp)
        by_cases k1 : (k.size : Int) < 1
        · have k2 : decide ((k.size : Int) < 1) = true := decide_eq_true k1
          clear s0 hS2 hS3 hc1 hc0 hl4 hav
          go_wp2_with fail
          go_ret
          exact ⟨rfl, MkN.kept M3.out⟩
        by_cases k3 : (8 : Int) < (k.size : Int)
        · have k2 : decide ((k.size : Int) < 1) = false := decide_eq_false k1
          have k4 : decide ((8 : Int) < (k.size : Int)) = true := decide_eq_true k3
          clear s0 hS2 hS3 hc1 hc0 hl4 hav
          go_wp2_with fail
          go_ret
          exact ⟨rfl, MkN.kept M3.out⟩
        have k2 : decide ((k.size : Int) < 1) = false := decide_eq_false k1
        have k4 : decide ((8 : Int) < (k.size : Int)) = false := decide_eq_false k3
        have hk8 : 0 < k.size ∧ k.size ≤ 8 := by omega
        have HM8 : k.size ≤ maxLen := HKM.out
        cases later with
        | false =>
          obtain ⟨M1, a2, e1, c1, f2, o2, s1⟩ := s0.begin (i := 2) (by decide) hS2 (by omega) (by omega)
          obtain ⟨M2, a3, e2, c2, f3, o3, s2⟩ := s1.begin (i := 3) (by decide) ((up_other (by decide)).trans hS3) (by omega) (by omega)
          obtain ⟨M3', e3, c3, s3⟩ := s2.write (i := 2) (a := a2) (k := k) (v := b1st) ((up_other (by decide)).trans (up_same _ _ _)) (by rw [o2]; decide) hk8 (by decide) (by omega)
          obtain ⟨M4, e4, c4, s4⟩ := (s3.commit (i := 2) (k := k) (v := b1st) (up_same _ _ _) (by show a2.t.ops ++ _ = _; rw [o2]; rfl) hk8 (by decide) (by omega) (by omega)).1 (by
            show afM (ch M'.A k) a2.t.f2 = none
            rw [f2]
            exact af_none fun y hy => by
              obtain ⟨e, he, -, rfl⟩ := mem_ch.1 hy
              have := hav e he
              omega)
          obtain ⟨M5, e5, c5, s5⟩ := s4.write (i := 3) (a := a3) (k := k) (v := b2nd) ((up_other (by decide)).trans ((up_other (by decide)).trans (up_same _ _ _))) (by rw [o3]; decide) hk8 (by decide) (by omega)
          have hgd : Good M'.A := MkN.good M3.out
          obtain ⟨M6, e6, c6, s6⟩ := (s5.commit (i := 3) (k := k) (v := b2nd) (up_same _ _ _) (by show a3.t.ops ++ _ = _; rw [o3]; rfl) hk8 (by decide) (by omega) (by omega)).2 (by
            show (afM (ch (M'.A ++ _) k) a3.t.f2).isSome = true
            rw [f3, ch_append, ch_one_same rfl]
            cases hq : afM (ch M'.A k ++ [(⟨M'.clock + 1 + 1 + 1 + 1, M'.log.length, true, b1st⟩ : Vn)]) (M'.clock + 1 + 1) with
            | some y => rfl
            | none =>
              exfalso
              unfold afM cnt at hq
              rw [List.getElem?_eq_none_iff, List.countP_append] at hq
              have h1 := List.countP_le_length (p := fun y : Vn => decide (y.c ≤ M'.clock + 1 + 1)) (l := ch M'.A k)
              have h2 : List.countP (fun y : Vn => decide (y.c ≤ M'.clock + 1 + 1)) [(⟨M'.clock + 1 + 1 + 1 + 1, M'.log.length, true, b1st⟩ : Vn)] = 0 := by
                rw [List.countP_eq_zero]
                intro y hy
                rw [List.mem_singleton.1 hy]
                simp only [decide_eq_true_eq]
                omega
              rw [h2] at hq
              simp only [List.length_append, List.length_cons, List.length_nil] at hq
              omega)
          have HE1 : Hid _ := And.intro e1 c1
          have HE2 : Hid _ := And.intro e2 c2
          have HE3 : Hid _ := And.intro e3 c3
          have HE4 : Hid _ := And.intro e4 c4
          have HE5 : Hid _ := And.intro e5 c5
          have HE6 : Hid _ := And.intro e6 c6
          have HVL : Hid (Good M6.A → valM M6 k = ⟨M'.clock + 1 + 1 + 1 + 1, M'.log.length, true, b1st⟩) := fun hg => Sx.val s6 hg (by show M'.clock + 1 + 1 + 1 + 1 ≤ _; omega) (fun e he => by have := hav e he; show e.x.c < M'.clock + 1 + 1 + 1 + 1; omega)
          clear s0 s1 s2 s3 s4 s5 s6 hgd e1 c1 e2 c2 e3 c3 e4 c4 e5 c5 e6 c6 f2 o2 f3 o3 hS2 hS3 hc1 hc0 hl4 hav
          have D1 : Hid _ := MkN.doN M3.out 1 2 0 e0 e0 (by decide) (by decide) HE1.out.1 HE1.out.2
          go_wp2_with fail
          refine Calls.mono D1.out ?_
          rintro e u1 ⟨rfl, n1⟩
          have D2 : Hid _ := MkN.doN n1 1 3 0 e0 e0 (by decide) (by decide) HE2.out.1 HE2.out.2
          clear n1
          go_wp2_with fail
          refine Calls.mono D2.out ?_
          rintro e u2 ⟨rfl, n2⟩
          have D3 : Hid _ := MkN.doN n2 3 2 0 k b1st HM8 (by decide) HE3.out.1 HE3.out.2
          clear n2
          go_wp2_with fail
          refine Calls.mono D3.out ?_
          rintro e u3 ⟨rfl, n3⟩
          have D4 : Hid _ := MkN.doN n3 5 2 0 e0 e0 (by decide) (by decide) HE4.out.1 HE4.out.2
          clear n3
          go_wp2_with fail
          refine Calls.mono D4.out ?_
          rintro e u4 ⟨rfl, n4⟩
          have HB8 : Hid (AnB (u4.alloc (.cells #[.bool false, .string e0, .int .i64 1] 56 (0, 0))) u4.heap.size ⟨false, e0, 1⟩) := heap_new _ _
          have m5 : MkB w (u4.alloc (.cells #[.bool false, .string e0, .int .i64 1] 56 (0, 0))) mb M4 (fun b => b = u4.heap.size ∨ False) := MkB.add (MkN.b n4) _
          have D5 : Hid _ := MkB.doB m5 3 3 0 k b2nd HM8 (by decide) HE5.out.1 HE5.out.2
          clear n4 m5
          go_wp2_with fail
          generalize u4.alloc (.cells #[.bool false, .string e0, .int .i64 1] 56 (0, 0)) = U4 at *
          generalize u4.heap.size = g8 at *
          refine Calls.mono D5.out ?_
          rintro e u5 ⟨rfl, n5, b5⟩
          have HB9 : Hid (AnB u5 g8 ⟨false, e0, 1⟩) := (b5 g8 (.inl rfl)).trans HB8.out
          have D6 : Hid _ := MkB.doB n5 5 3 0 e0 e0 (by decide) (by decide) HE6.out.1 HE6.out.2
          clear n5 b5
          go_wp2_with fail
          refine Calls.mono D6.out ?_
          rintro e u6 ⟨rfl, n6, b6⟩
          have HBA : Hid (AnB u6 g8 ⟨false, e0, 1⟩) := (b6 g8 (.inl rfl)).trans HB9.out
          have KA : Hid (Kept u6 (u6.alloc (.cells #[.bool false, .string e0, .int .i64 0] 56 (0, 0)))) := (Same.refl _ _).alloc _
          have n7 : MkN w (u6.alloc (.cells #[.bool false, .string e0, .int .i64 0] 56 (0, 0))) mb M6 := MkN.on (MkB.n n6) KA.out
          have HBB : Hid (AnB (u6.alloc (.cells #[.bool false, .string e0, .int .i64 0] 56 (0, 0))) u6.heap.size an0) := heap_new _ _
          have HBC : Hid (AnB (u6.alloc (.cells #[.bool false, .string e0, .int .i64 0] 56 (0, 0))) g8 ⟨false, e0, 1⟩) := (Same.block KA.out g8 (lt_of_heap HBA.out) (fun e => e)).trans HBA.out
          have D7 : Hid _ := MkN.valN n7 k HM8 (HVL.out (MkN.good n7))
          have N7 : Hid _ := n7
          clear n6 b6 n7
          go_wp2_with fail
          refine Calls.mono D7.out ?_
          rintro e u8 ⟨rfl, k8⟩
          obtain ⟨⟨-, -, z2⟩, hz2, -⟩ := AnB.cells ((k8.block g8 (lt_of_heap HBC.out) (fun e => e)).trans HBC.out : AnB u8 g8 ⟨false, e0, 1⟩)
          obtain ⟨⟨-, -, y2⟩, hy2, -⟩ := AnB.cells ((k8.block u6.heap.size (lt_of_heap HBB.out) (fun e => e)).trans HBB.out : AnB u8 u6.heap.size an0)
          have K8 : Hid (Kept w u8) := Same.trans' (MkN.kept N7.out) k8
          clear k8
          go_wp2_with fail
          go_ret
          exact ⟨rfl, K8.out⟩
        | true =>
          obtain ⟨M1, a2, e1, c1, f2, o2, s1⟩ := s0.begin (i := 2) (by decide) hS2 (by omega) (by omega)
          obtain ⟨M3', e3, c3, s3⟩ := s1.write (i := 2) (a := a2) (k := k) (v := b1st) (up_same _ _ _) (by rw [o2]; decide) hk8 (by decide) (by omega)
          obtain ⟨M4, e4, c4, s4⟩ := (s3.commit (i := 2) (k := k) (v := b1st) (up_same _ _ _) (by show a2.t.ops ++ _ = _; rw [o2]; rfl) hk8 (by decide) (by omega) (by omega)).1 (by
            show afM (ch M'.A k) a2.t.f2 = none
            rw [f2]
            exact af_none fun y hy => by
              obtain ⟨e, he, -, rfl⟩ := mem_ch.1 hy
              have := hav e he
              omega)
          obtain ⟨M2, a3, e2, c2, f3, o3, s2⟩ := s4.begin (i := 3) (by decide) ((up_other (by decide)).trans ((up_other (by decide)).trans ((up_other (by decide)).trans hS3))) (by omega) (by omega)
          obtain ⟨M5, e5, c5, s5⟩ := s2.write (i := 3) (a := a3) (k := k) (v := b2nd) (up_same _ _ _) (by rw [o3]; decide) hk8 (by decide) (by omega)
          have hall : ∀ e ∈ M'.A ++ [(⟨k, ⟨M'.clock + 1 + 1 + 1, M'.log.length, true, b1st⟩⟩ : En)], e.x.c ≤ M'.clock + 1 + 1 + 1 := fun e he => by
            rcases List.mem_append.1 he with he | he
            · have := hav e he
              omega
            · rw [List.mem_singleton.1 he]
              exact Int.le_refl _
          obtain ⟨M6, e6, c6, s6⟩ := (s5.commit (i := 3) (k := k) (v := b2nd) (up_same _ _ _) (by show a3.t.ops ++ _ = _; rw [o3]; rfl) hk8 (by decide) (by omega) (by omega)).1 (by
            show afM (ch (M'.A ++ _) k) a3.t.f2 = none
            rw [f3]
            exact af_none fun y hy => by
              obtain ⟨e, he, -, rfl⟩ := mem_ch.1 hy
              have := hall e he
              omega)
          have HE1 : Hid _ := And.intro e1 c1
          have HE2 : Hid _ := And.intro e2 c2
          have HE3 : Hid _ := And.intro e3 c3
          have HE4 : Hid _ := And.intro e4 c4
          have HE5 : Hid _ := And.intro e5 c5
          have HE6 : Hid _ := And.intro e6 c6
          have HVL : Hid (Good M6.A → valM M6 k = ⟨M'.clock + 1 + 1 + 1 + 1 + 1 + 1, ((M'.log.length + 1 : Nat) : Int), true, b2nd⟩) := fun hg => Sx.val s6 hg (Int.le_refl _) (fun e he => by have := hall e he; show e.x.c < M'.clock + 1 + 1 + 1 + 1 + 1 + 1; omega)
          clear s0 s1 s2 s3 s4 s5 s6 hall e1 c1 e2 c2 e3 c3 e4 c4 e5 c5 e6 c6 f2 o2 f3 o3 hS2 hS3 hc1 hc0 hl4 hav
          have D1 : Hid _ := MkN.doN M3.out 1 2 0 e0 e0 (by decide) (by decide) HE1.out.1 HE1.out.2
          go_wp2_with fail
          refine Calls.mono D1.out ?_
          rintro e u1 ⟨rfl, n1⟩
          have D3 : Hid _ := MkN.doN n1 3 2 0 k b1st HM8 (by decide) HE3.out.1 HE3.out.2
          clear n1
          go_wp2_with fail
          refine Calls.mono D3.out ?_
          rintro e u3 ⟨rfl, n3⟩
          have D4 : Hid _ := MkN.doN n3 5 2 0 e0 e0 (by decide) (by decide) HE4.out.1 HE4.out.2
          clear n3
          go_wp2_with fail
          refine Calls.mono D4.out ?_
          rintro e u4 ⟨rfl, n4⟩
          have HB8 : Hid (AnB (u4.alloc (.cells #[.bool false, .string e0, .int .i64 1] 56 (0, 0))) u4.heap.size ⟨false, e0, 1⟩) := heap_new _ _
          have m5 : MkB w (u4.alloc (.cells #[.bool false, .string e0, .int .i64 1] 56 (0, 0))) mb M4 (fun b => b = u4.heap.size ∨ False) := MkB.add (MkN.b n4) _
          have D2 : Hid _ := MkB.doB m5 1 3 0 e0 e0 (by decide) (by decide) HE2.out.1 HE2.out.2
          clear n4 m5
          go_wp2_with fail
          generalize u4.alloc (.cells #[.bool false, .string e0, .int .i64 1] 56 (0, 0)) = U4 at *
          generalize u4.heap.size = g8 at *
          refine Calls.mono D2.out ?_
          rintro e u2 ⟨rfl, n2, b2⟩
          have HB7 : Hid (AnB u2 g8 ⟨false, e0, 1⟩) := (b2 g8 (.inl rfl)).trans HB8.out
          have D5 : Hid _ := MkB.doB n2 3 3 0 k b2nd HM8 (by decide) HE5.out.1 HE5.out.2
          clear n2 b2
          go_wp2_with fail
          refine Calls.mono D5.out ?_
          rintro e u5 ⟨rfl, n5, b5⟩
          have HB9 : Hid (AnB u5 g8 ⟨false, e0, 1⟩) := (b5 g8 (.inl rfl)).trans HB7.out
          have D6 : Hid _ := MkB.doB n5 5 3 0 e0 e0 (by decide) (by decide) HE6.out.1 HE6.out.2
          clear n5 b5
          go_wp2_with fail
          refine Calls.mono D6.out ?_
          rintro e u6 ⟨rfl, n6, b6⟩
          have HBA : Hid (AnB u6 g8 ⟨false, e0, 1⟩) := (b6 g8 (.inl rfl)).trans HB9.out
          have KA : Hid (Kept u6 (u6.alloc (.cells #[.bool false, .string e0, .int .i64 1] 56 (0, 0)))) := (Same.refl _ _).alloc _
          have n7 : MkN w (u6.alloc (.cells #[.bool false, .string e0, .int .i64 1] 56 (0, 0))) mb M6 := MkN.on (MkB.n n6) KA.out
          have HBB : Hid (AnB (u6.alloc (.cells #[.bool false, .string e0, .int .i64 1] 56 (0, 0))) u6.heap.size (⟨false, e0, 1⟩ : An)) := heap_new _ _
          have HBC : Hid (AnB (u6.alloc (.cells #[.bool false, .string e0, .int .i64 1] 56 (0, 0))) g8 ⟨false, e0, 1⟩) := (Same.block KA.out g8 (lt_of_heap HBA.out) (fun e => e)).trans HBA.out
          have D7 : Hid _ := MkN.valN n7 k HM8 (HVL.out (MkN.good n7))
          have N7 : Hid _ := n7
          clear n6 b6 n7
          go_wp2_with fail
          refine Calls.mono D7.out ?_
          rintro e u8 ⟨rfl, k8⟩
          obtain ⟨⟨-, -, z2⟩, hz2, -⟩ := AnB.cells ((k8.block g8 (lt_of_heap HBC.out) (fun e => e)).trans HBC.out : AnB u8 g8 ⟨false, e0, 1⟩)
          obtain ⟨⟨-, -, y2⟩, hy2, -⟩ := AnB.cells ((k8.block u6.heap.size (lt_of_heap HBB.out) (fun e => e)).trans HBB.out : AnB u8 u6.heap.size (⟨false, e0, 1⟩ : An))
          have K8 : Hid (Kept w u8) := Same.trans' (MkN.kept N7.out) k8
          clear k8
          go_wp2_with fail
          go_ret
          exact ⟨rfl, K8.out⟩
  | false =>
    have MB : Hid (MkN w w1 mb MA) := by show MkN w w1 mb MA; rw [HNA.out (by simp)]; exact MA1.out
    clear MA1
    go_wp2_with fail
    refine Calls.mono (HFR.out w _ mb MB.out) ?_
    rintro e w3 ⟨rfl, m3⟩
    have M3 : Hid (MkN w w3 mb M') := m3
    clear m3 HFR HAB HA2 HNA MB
    cases fr with
    | false =>
      go_wp2_with fail
      go_ret
      exact ⟨rfl, MkN.kept M3.out⟩
    | true =>
      go_wp2_with fail
      refine Calls.mono (HA3.out w _ mb M3.out) ?_
      rintro e w4 ⟨rfl, h4⟩
      subst w4
      cases b2' with
      | true =>
        go_wp2_with fail
        go_ret
        exact ⟨rfl, MkN.kept M3.out⟩
      | false =>
        obtain ⟨s0, hS2, hS3, hc1, hc0, hl4, hav⟩ := HPLN.out (by simp) (by simp)
        by_cases k1 : (k.size : Int) < 1
        · have k2 : decide ((k.size : Int) < 1) = true := decide_eq_true k1
          clear s0 hS2 hS3 hc1 hc0 hl4 hav
          go_wp2_with fail
          go_ret
          exact ⟨rfl, MkN.kept M3.out⟩
        by_cases k3 : (8 : Int) < (k.size : Int)
        · have k2 : decide ((k.size : Int) < 1) = false := decide_eq_false k1
          have k4 : decide ((8 : Int) < (k.size : Int)) = true := decide_eq_true k3
          clear s0 hS2 hS3 hc1 hc0 hl4 hav
          go_wp2_with fail
          go_ret
          exact ⟨rfl, MkN.kept M3.out⟩
        have k2 : decide ((k.size : Int) < 1) = false := decide_eq_false k1
        have k4 : decide ((8 : Int) < (k.size : Int)) = false := decide_eq_false k3
        have hk8 : 0 < k.size ∧ k.size ≤ 8 := by omega
        have HM8 : k.size ≤ maxLen := HKM.out
        cases later with
        | false =>
          obtain ⟨M1, a2, e1, c1, f2, o2, s1⟩ := s0.begin (i := 2) (by decide) hS2 (by omega) (by omega)
          obtain ⟨M2, a3, e2, c2, f3, o3, s2⟩ := s1.begin (i := 3) (by decide) ((up_other (by decide)).trans hS3) (by omega) (by omega)
          obtain ⟨M3', e3, c3, s3⟩ := s2.write (i := 2) (a := a2) (k := k) (v := b1st) ((up_other (by decide)).trans (up_same _ _ _)) (by rw [o2]; decide) hk8 (by decide) (by omega)
          obtain ⟨M4, e4, c4, s4⟩ := (s3.commit (i := 2) (k := k) (v := b1st) (up_same _ _ _) (by show a2.t.ops ++ _ = _; rw [o2]; rfl) hk8 (by decide) (by omega) (by omega)).1 (by
            show afM (ch M'.A k) a2.t.f2 = none
            rw [f2]
            exact af_none fun y hy => by
              obtain ⟨e, he, -, rfl⟩ := mem_ch.1 hy
              have := hav e he
              omega)
          obtain ⟨M5, e5, c5, s5⟩ := s4.write (i := 3) (a := a3) (k := k) (v := b2nd) ((up_other (by decide)).trans ((up_other (by decide)).trans (up_same _ _ _))) (by rw [o3]; decide) hk8 (by decide) (by omega)
          have hgd : Good M'.A := MkN.good M3.out
          obtain ⟨M6, e6, c6, s6⟩ := (s5.commit (i := 3) (k := k) (v := b2nd) (up_same _ _ _) (by show a3.t.ops ++ _ = _; rw [o3]; rfl) hk8 (by decide) (by omega) (by omega)).2 (by
            show (afM (ch (M'.A ++ _) k) a3.t.f2).isSome = true
            rw [f3, ch_append, ch_one_same rfl]
            cases hq : afM (ch M'.A k ++ [(⟨M'.clock + 1 + 1 + 1 + 1, M'.log.length, true, b1st⟩ : Vn)]) (M'.clock + 1 + 1) with
            | some y => rfl
            | none =>
              exfalso
              unfold afM cnt at hq
              rw [List.getElem?_eq_none_iff, List.countP_append] at hq
              have h1 := List.countP_le_length (p := fun y : Vn => decide (y.c ≤ M'.clock + 1 + 1)) (l := ch M'.A k)
              have h2 : List.countP (fun y : Vn => decide (y.c ≤ M'.clock + 1 + 1)) [(⟨M'.clock + 1 + 1 + 1 + 1, M'.log.length, true, b1st⟩ : Vn)] = 0 := by
                rw [List.countP_eq_zero]
                intro y hy
                rw [List.mem_singleton.1 hy]
                simp only [decide_eq_true_eq]
                omega
              rw [h2] at hq
              simp only [List.length_append, List.length_cons, List.length_nil] at hq
              omega)
          have HE1 : Hid _ := And.intro e1 c1
          have HE2 : Hid _ := And.intro e2 c2
          have HE3 : Hid _ := And.intro e3 c3
          have HE4 : Hid _ := And.intro e4 c4
          have HE5 : Hid _ := And.intro e5 c5
          have HE6 : Hid _ := And.intro e6 c6
          have HVL : Hid (Good M6.A → valM M6 k = ⟨M'.clock + 1 + 1 + 1 + 1, M'.log.length, true, b1st⟩) := fun hg => Sx.val s6 hg (by show M'.clock + 1 + 1 + 1 + 1 ≤ _; omega) (fun e he => by have := hav e he; show e.x.c < M'.clock + 1 + 1 + 1 + 1; omega)
          clear s0 s1 s2 s3 s4 s5 s6 hgd e1 c1 e2 c2 e3 c3 e4 c4 e5 c5 e6 c6 f2 o2 f3 o3 hS2 hS3 hc1 hc0 hl4 hav
          have D1 : Hid _ := MkN.doN M3.out 1 2 0 e0 e0 (by decide) (by decide) HE1.out.1 HE1.out.2
          go_wp2_with fail
          refine Calls.mono D1.out ?_
          rintro e u1 ⟨rfl, n1⟩
          have D2 : Hid _ := MkN.doN n1 1 3 0 e0 e0 (by decide) (by decide) HE2.out.1 HE2.out.2
          clear n1
          go_wp2_with fail
          refine Calls.mono D2.out ?_
          rintro e u2 ⟨rfl, n2⟩
          have D3 : Hid _ := MkN.doN n2 3 2 0 k b1st HM8 (by decide) HE3.out.1 HE3.out.2
          clear n2
          go_wp2_with fail
          refine Calls.mono D3.out ?_
          rintro e u3 ⟨rfl, n3⟩
          have D4 : Hid _ := MkN.doN n3 5 2 0 e0 e0 (by decide) (by decide) HE4.out.1 HE4.out.2
          clear n3
          go_wp2_with fail
          refine Calls.mono D4.out ?_
          rintro e u4 ⟨rfl, n4⟩
          have HB8 : Hid (AnB (u4.alloc (.cells #[.bool false, .string e0, .int .i64 1] 56 (0, 0))) u4.heap.size ⟨false, e0, 1⟩) := heap_new _ _
          have m5 : MkB w (u4.alloc (.cells #[.bool false, .string e0, .int .i64 1] 56 (0, 0))) mb M4 (fun b => b = u4.heap.size ∨ False) := MkB.add (MkN.b n4) _
          have D5 : Hid _ := MkB.doB m5 3 3 0 k b2nd HM8 (by decide) HE5.out.1 HE5.out.2
          clear n4 m5
          go_wp2_with fail
          generalize u4.alloc (.cells #[.bool false, .string e0, .int .i64 1] 56 (0, 0)) = U4 at *
          generalize u4.heap.size = g8 at *
          refine Calls.mono D5.out ?_
          rintro e u5 ⟨rfl, n5, b5⟩
          have HB9 : Hid (AnB u5 g8 ⟨false, e0, 1⟩) := (b5 g8 (.inl rfl)).trans HB8.out
          have D6 : Hid _ := MkB.doB n5 5 3 0 e0 e0 (by decide) (by decide) HE6.out.1 HE6.out.2
          clear n5 b5
          go_wp2_with fail
          refine Calls.mono D6.out ?_
          rintro e u6 ⟨rfl, n6, b6⟩
          have HBA : Hid (AnB u6 g8 ⟨false, e0, 1⟩) := (b6 g8 (.inl rfl)).trans HB9.out
          have KA : Hid (Kept u6 (u6.alloc (.cells #[.bool false, .string e0, .int .i64 0] 56 (0, 0)))) := (Same.refl _ _).alloc _
          have n7 : MkN w (u6.alloc (.cells #[.bool false, .string e0, .int .i64 0] 56 (0, 0))) mb M6 := MkN.on (MkB.n n6) KA.out
          have HBB : Hid (AnB (u6.alloc (.cells #[.bool false, .string e0, .int .i64 0] 56 (0, 0))) u6.heap.size an0) := heap_new _ _
          have HBC : Hid (AnB (u6.alloc (.cells #[.bool false, .string e0, .int .i64 0] 56 (0, 0))) g8 ⟨false, e0, 1⟩) := (Same.block KA.out g8 (lt_of_heap HBA.out) (fun e => e)).trans HBA.out
          have D7 : Hid _ := MkN.valN n7 k HM8 (HVL.out (MkN.good n7))
          have N7 : Hid _ := n7
          clear n6 b6 n7
          go_wp2_with fail
          refine Calls.mono D7.out ?_
          rintro e u8 ⟨rfl, k8⟩
          obtain ⟨⟨-, -, z2⟩, hz2, -⟩ := AnB.cells ((k8.block g8 (lt_of_heap HBC.out) (fun e => e)).trans HBC.out : AnB u8 g8 ⟨false, e0, 1⟩)
          obtain ⟨⟨-, -, y2⟩, hy2, -⟩ := AnB.cells ((k8.block u6.heap.size (lt_of_heap HBB.out) (fun e => e)).trans HBB.out : AnB u8 u6.heap.size an0)
          have K8 : Hid (Kept w u8) := Same.trans' (MkN.kept N7.out) k8
          clear k8
          go_wp2_with fail
          go_ret
          exact ⟨rfl, K8.out⟩
        | true =>
          obtain ⟨M1, a2, e1, c1, f2, o2, s1⟩ := s0.begin (i := 2) (by decide) hS2 (by omega) (by omega)
          obtain ⟨M3', e3, c3, s3⟩ := s1.write (i := 2) (a := a2) (k := k) (v := b1st) (up_same _ _ _) (by rw [o2]; decide) hk8 (by decide) (by omega)
          obtain ⟨M4, e4, c4, s4⟩ := (s3.commit (i := 2) (k := k) (v := b1st) (up_same _ _ _) (by show a2.t.ops ++ _ = _; rw [o2]; rfl) hk8 (by decide) (by omega) (by omega)).1 (by
            show afM (ch M'.A k) a2.t.f2 = none
            rw [f2]
            exact af_none fun y hy => by
              obtain ⟨e, he, -, rfl⟩ := mem_ch.1 hy
              have := hav e he
              omega)
          obtain ⟨M2, a3, e2, c2, f3, o3, s2⟩ := s4.begin (i := 3) (by decide) ((up_other (by decide)).trans ((up_other (by decide)).trans ((up_other (by decide)).trans hS3))) (by omega) (by omega)
          obtain ⟨M5, e5, c5, s5⟩ := s2.write (i := 3) (a := a3) (k := k) (v := b2nd) (up_same _ _ _) (by rw [o3]; decide) hk8 (by decide) (by omega)
          have hall : ∀ e ∈ M'.A ++ [(⟨k, ⟨M'.clock + 1 + 1 + 1, M'.log.length, true, b1st⟩⟩ : En)], e.x.c ≤ M'.clock + 1 + 1 + 1 := fun e he => by
            rcases List.mem_append.1 he with he | he
            · have := hav e he
              omega
            · rw [List.mem_singleton.1 he]
              exact Int.le_refl _
          obtain ⟨M6, e6, c6, s6⟩ := (s5.commit (i := 3) (k := k) (v := b2nd) (up_same _ _ _) (by show a3.t.ops ++ _ = _; rw [o3]; rfl) hk8 (by decide) (by omega) (by omega)).1 (by
            show afM (ch (M'.A ++ _) k) a3.t.f2 = none
            rw [f3]
            exact af_none fun y hy => by
              obtain ⟨e, he, -, rfl⟩ := mem_ch.1 hy
              have := hall e he
              omega)
          have HE1 : Hid _ := And.intro e1 c1
          have HE2 : Hid _ := And.intro e2 c2
          have HE3 : Hid _ := And.intro e3 c3
          have HE4 : Hid _ := And.intro e4 c4
          have HE5 : Hid _ := And.intro e5 c5
          have HE6 : Hid _ := And.intro e6 c6
          have HVL : Hid (Good M6.A → valM M6 k = ⟨M'.clock + 1 + 1 + 1 + 1 + 1 + 1, ((M'.log.length + 1 : Nat) : Int), true, b2nd⟩) := fun hg => Sx.val s6 hg (Int.le_refl _) (fun e he => by have := hall e he; show e.x.c < M'.clock + 1 + 1 + 1 + 1 + 1 + 1; omega)
          clear s0 s1 s2 s3 s4 s5 s6 hall e1 c1 e2 c2 e3 c3 e4 c4 e5 c5 e6 c6 f2 o2 f3 o3 hS2 hS3 hc1 hc0 hl4 hav
          have D1 : Hid _ := MkN.doN M3.out 1 2 0 e0 e0 (by decide) (by decide) HE1.out.1 HE1.out.2
          go_wp2_with fail
          refine Calls.mono D1.out ?_
          rintro e u1 ⟨rfl, n1⟩
          have D3 : Hid _ := MkN.doN n1 3 2 0 k b1st HM8 (by decide) HE3.out.1 HE3.out.2
          clear n1
          go_wp2_with fail
          refine Calls.mono D3.out ?_
          rintro e u3 ⟨rfl, n3⟩
          have D4 : Hid _ := MkN.doN n3 5 2 0 e0 e0 (by decide) (by decide) HE4.out.1 HE4.out.2
          clear n3
          go_wp2_with fail
          refine Calls.mono D4.out ?_
          rintro e u4 ⟨rfl, n4⟩
          have HB8 : Hid (AnB (u4.alloc (.cells #[.bool false, .string e0, .int .i64 1] 56 (0, 0))) u4.heap.size ⟨false, e0, 1⟩) := heap_new _ _
          have m5 : MkB w (u4.alloc (.cells #[.bool false, .string e0, .int .i64 1] 56 (0, 0))) mb M4 (fun b => b = u4.heap.size ∨ False) := MkB.add (MkN.b n4) _
          have D2 : Hid _ := MkB.doB m5 1 3 0 e0 e0 (by decide) (by decide) HE2.out.1 HE2.out.2
          clear n4 m5
          go_wp2_with fail
          generalize u4.alloc (.cells #[.bool false, .string e0, .int .i64 1] 56 (0, 0)) = U4 at *
          generalize u4.heap.size = g8 at *
          refine Calls.mono D2.out ?_
          rintro e u2 ⟨rfl, n2, b2⟩
          have HB7 : Hid (AnB u2 g8 ⟨false, e0, 1⟩) := (b2 g8 (.inl rfl)).trans HB8.out
          have D5 : Hid _ := MkB.doB n2 3 3 0 k b2nd HM8 (by decide) HE5.out.1 HE5.out.2
          clear n2 b2
          go_wp2_with fail
          refine Calls.mono D5.out ?_
          rintro e u5 ⟨rfl, n5, b5⟩
          have HB9 : Hid (AnB u5 g8 ⟨false, e0, 1⟩) := (b5 g8 (.inl rfl)).trans HB7.out
          have D6 : Hid _ := MkB.doB n5 5 3 0 e0 e0 (by decide) (by decide) HE6.out.1 HE6.out.2
          clear n5 b5
          go_wp2_with fail
          refine Calls.mono D6.out ?_
          rintro e u6 ⟨rfl, n6, b6⟩
          have HBA : Hid (AnB u6 g8 ⟨false, e0, 1⟩) := (b6 g8 (.inl rfl)).trans HB9.out
          have KA : Hid (Kept u6 (u6.alloc (.cells #[.bool false, .string e0, .int .i64 1] 56 (0, 0)))) := (Same.refl _ _).alloc _
          have n7 : MkN w (u6.alloc (.cells #[.bool false, .string e0, .int .i64 1] 56 (0, 0))) mb M6 := MkN.on (MkB.n n6) KA.out
          have HBB : Hid (AnB (u6.alloc (.cells #[.bool false, .string e0, .int .i64 1] 56 (0, 0))) u6.heap.size (⟨false, e0, 1⟩ : An)) := heap_new _ _
          have HBC : Hid (AnB (u6.alloc (.cells #[.bool false, .string e0, .int .i64 1] 56 (0, 0))) g8 ⟨false, e0, 1⟩) := (Same.block KA.out g8 (lt_of_heap HBA.out) (fun e => e)).trans HBA.out
          have D7 : Hid _ := MkN.valN n7 k HM8 (HVL.out (MkN.good n7))
          have N7 : Hid _ := n7
          clear n6 b6 n7
          go_wp2_with fail
          refine Calls.mono D7.out ?_
          rintro e u8 ⟨rfl, k8⟩
          obtain ⟨⟨-, -, z2⟩, hz2, -⟩ := AnB.cells ((k8.block g8 (lt_of_heap HBC.out) (fun e => e)).trans HBC.out : AnB u8 g8 ⟨false, e0, 1⟩)
          obtain ⟨⟨-, -, y2⟩, hy2, -⟩ := AnB.cells ((k8.block u6.heap.size (lt_of_heap HBB.out) (fun e => e)).trans HBB.out : AnB u8 u6.heap.size (⟨false, e0, 1⟩ : An))
          have K8 : Hid (Kept w u8) := Same.trans' (MkN.kept N7.out) k8
          clear k8
          go_wp2_with fail
          go_ret
          exact ⟨rfl, K8.out⟩
end Go.Proofs.Ytmlefbpdlgnkgaa
