/- What is proved: Do refuses or does a step as the document says; Now, Active, Value tell what the machine holds; the machine lies in memory. -/
import Derived.Test.YtmghmacgljihcaaKCar
import Derived.Test.YtmghmacgljihcaaKUnt
namespace Go.Proofs.Ytmghmacgljihcaa
open Go.RowKit

set_option maxRecDepth 100000 in
set_option maxHeartbeats 1600000 in
theorem do15 {F : Nat → Prop} {w : World} {mb : Nat} {M : Mm} (h : Mk F w mb M) (s : Stp) (hk : s.key.size ≤ maxLen) (hvl : s.value.size ≤ maxLen) :
    Calls Try.prog 20 #[.pointer (some ⟨mb, 0, none⟩), .agg #[.int .i64 s.kind, .int .i64 s.ses, .int .i64 s.gap, .string s.key, .string s.value]] w fun e w' => e = .returned (.tuple #[.agg #[.bool (doM M s).2.found, .string (doM M s).2.value, .int .i64 (doM M s).2.status], .int .i64 (codeD M s)]) ∧ StpM F w mb (doM M s).1 w' := by
  obtain ⟨hv, tg, sb, vb, lv, P, L, hm, hF⟩ := h
  obtain ⟨N, eN⟩ : ∃ N, N = doM M s := ⟨_, rfl⟩
  obtain ⟨cd, eC⟩ : ∃ cd, cd = codeD M s := ⟨_, rfl⟩
  rw [← eN, ← eC]
  have ENN : Hid (N = doM M s) := eN
  have ECD : Hid (cd = codeD M s) := eC
  clear eN eC
  have HI : Hid (Inv (doM M s).1) := hv.step s
  have HLT : Hid (∀ b, tg b ≠ .out → b < w.heap.size) := hm.lt
  have HFIN : Hid (∀ M' w', Inv M' → MiP tg w mb sb vb M' w' → StpM F w mb M' w') := fun M' w' hi' h9 => by
    obtain ⟨tg', lv', P', L', g1, g2, g3⟩ := h9
    refine ⟨fun b => tg' b ≠ .out, ⟨hi', tg', sb, vb, lv', P', L', g1, fun b => Iff.rfl⟩, fun b hb => ?_, g3.mono fun b _ hb => (hF b).2 hb⟩
    rcases g2 b hb with h | h
    · exact .inl ((hF b).2 h)
    · exact .inr h
  have K3 : Hid (Kept w ((w.alloc (.cells #[.int .i64 s.kind, .int .i64 s.ses, .int .i64 s.gap, .string s.key, .string s.value] 32 (0, 0))).alloc (.cells #[.bool false, .string ⟨#[]⟩, .int .i64 0] 54 (0, 0)))) := ((Same.refl _ _).alloc _).alloc _
  have HB4 : Hid (AnB ((w.alloc (.cells #[.int .i64 s.kind, .int .i64 s.ses, .int .i64 s.gap, .string s.key, .string s.value] 32 (0, 0))).alloc (.cells #[.bool false, .string ⟨#[]⟩, .int .i64 0] 54 (0, 0))) (w.heap.size + 1) an0) := by
    have := heap_new (w.alloc (.cells #[.int .i64 s.kind, .int .i64 s.ses, .int .i64 s.gap, .string s.key, .string s.value] 32 (0, 0))) (.cells #[.bool false, .string ⟨#[]⟩, .int .i64 0] 54 (0, 0))
    rw [World.size_alloc] at this
    exact this
  have HB3 : Hid (StB ((w.alloc (.cells #[.int .i64 s.kind, .int .i64 s.ses, .int .i64 s.gap, .string s.key, .string s.value] 32 (0, 0))).alloc (.cells #[.bool false, .string ⟨#[]⟩, .int .i64 0] 54 (0, 0))) w.heap.size s.kind s.ses s.gap s.key s.value) := StB.on (heap_new w _) ((Same.refl _ _).alloc _)
  have HMF : Hid (∀ W, Kept w W → _) := fun W k' => malformed15 (hm.on k') hv.s1 s hk hvl
  have HMI : Hid (Mi tg w mb sb vb lv P L M) := hm
  have HV : Hid (Inv M) := hv
  have hw1 : w.heap.size ≤ w.heap.size + 1 := Nat.le_succ _
  clear hm hv hk hvl
  go_enter Try.func20, Try.ntmps20
  go_upto_region 1 with fail
  generalize (w.alloc (.cells #[.int .i64 s.kind, .int .i64 s.ses, .int .i64 s.gap, .string s.key, .string s.value] 32 (0, 0))).alloc (.cells #[.bool false, .string ⟨#[]⟩, .int .i64 0] 54 (0, 0)) = W at *
  generalize w.heap.size + 1 = g4 at *
  generalize hg3 : w.heap.size = g3 at HB3 ⊢
  clear hg3
  have hg4 := lt_of_heap HB4.out
  obtain ⟨hg3, x0, x1, x2, x3, x4⟩ := StB.cells HB3.out
  -- a refused step
  have HREF : Hid (∀ w5, Kept W w5 → AnB w5 g4 an0) := fun w5 k5 => (k5.block g4 hg4 (fun e => e)).trans HB4.out
  have HRFM : Hid (∀ w5, Kept W w5 → StpM F w mb M (((w5.setCell ⟨g4, 0, none⟩ (.bool false)).setCell ⟨g4, 1, none⟩ (.string ⟨#[]⟩)).setCell ⟨g4, 2, none⟩ (.int .i64 0))) := fun w5 k5 => HFIN.out M _ HV.out (MiP.ret HLT.out (Kept.to (Same.trans' K3.out k5) _) (MiP.start (Mi.on HMI.out (Same.trans' K3.out k5))) hw1 (Nat.lt_of_lt_of_le hg4 k5.size) _ _ _)
  by_cases hB : codeB M.ses.length s = 0
  · obtain ⟨-, ⟨b2, b2'⟩, ⟨b3, b3'⟩, -, -⟩ := codeB_zero hB
    obtain ⟨i, ei⟩ : ∃ i : Nat, s.ses = (i : Int) := ⟨s.ses.toNat, by omega⟩
    have hi : i < M.ses.length := by omega
    have es : s = ⟨s.kind, (i : Int), s.gap, s.key, s.value⟩ := by cases s; simp only at ei; rw [ei]
    have HUT : Hid (∀ W', Kept w W' → Calls Try.prog 33 #[.pointer (some ⟨mb, 0, none⟩), .agg #[.int .i64 s.kind, .int .i64 s.ses, .int .i64 s.gap, .string s.key, .string s.value]] W' fun e w' => e = .returned (.int .i64 (codeU M s)) ∧ Kept W' w') := fun W' k' => by
      have h9 := untimely15 (Mi.on HMI.out k') HV.out s.kind i s.gap s.key s.value hi b3 b3'
      rw [← es, ← ei] at h9
      exact h9
    rw [hB] at HMF
    have eD : codeD M s = codeU M s := by unfold codeD; rw [if_neg (fun h => h hB)]
    have ECU : Hid (cd = codeU M s) := (show cd = _ from ECD.out).trans eD
    by_cases hU : codeU M s = 0
    · have HCA : Hid (∀ W', Kept w W' → Calls Try.prog 34 #[.pointer (some ⟨mb, 0, none⟩), .agg #[.int .i64 s.kind, .int .i64 s.ses, .int .i64 s.gap, .string s.key, .string s.value]] W' fun e w' => e = .returned (.agg #[.bool N.2.found, .string N.2.value, .int .i64 N.2.status]) ∧ MiP tg W' mb sb vb N.1 w') := fun W' k' => by
        have h9 := carry15 (Mi.on HMI.out k') HV.out s.kind i s.gap s.key s.value (by rw [← es, eD]; exact hU)
        rw [← es, ← ei, ← show N = goM (M.tick (M.clock + 1 + s.gap)) M.clock s from (show N = _ from ENN.out).trans (by unfold doM; rw [if_pos (eD.trans hU)])] at h9
        exact h9
      rw [hU] at HUT ECU
      have HIN : Hid (Inv N.1) := by show Inv N.1; rw [show N = _ from ENN.out]; exact HI.out
      clear hB hU es ei eD b2 b2' b3 b3' HREF HRFM ENN ECD HI
      go_wp2_with fail
      refine Calls.mono (HMF.out W K3.out) ?_
      rintro r w5 ⟨rfl, k5⟩
      obtain ⟨hg35, y0, y1, y2, y3, y4⟩ := StB.cells (StB.on HB3.out k5)
      have K5 : Hid (Kept W w5) := k5
      clear k5
      go_wp2_with fail
      refine Calls.mono (HUT.out w5 (Same.trans' K3.out K5.out)) ?_
      rintro r w6 ⟨rfl, k6⟩
      obtain ⟨hg36, v0', v1', v2', v3', v4'⟩ := StB.cells (StB.on HB3.out (Same.trans' K5.out k6))
      have K6 : Hid (Kept W w6) := Same.trans' K5.out k6
      clear k6
      go_wp2_with fail
      refine Calls.mono (HCA.out w6 (Same.trans' K3.out K6.out)) ?_
      rintro r w7 ⟨rfl, m7⟩
      have M7 : Hid _ := m7
      have hg46 : g4 < w6.heap.size := Nat.lt_of_lt_of_le hg4 (Same.size K6.out)
      have HB2 : Hid (AnB w7 g4 an0) := (MiP.box HLT.out m7 hw1 hg46).trans ((Same.block K6.out g4 hg4 (fun e => e)).trans HB4.out)
      obtain ⟨⟨z0, z1, z2⟩, hl2, q0, q1, q2⟩ := AnB.cells HB2.out
      clear m7
      go_wp2_with fail
      refine bodyPost_ret (results_ct (a := 4) (t := 54) (u := 5) rfl rfl (loadVar_an (a := N.2) (AnB.put HB2.out N.2))) rfl ?_
      rw [show cd = _ from ECU.out]
      exact ⟨rfl, HFIN.out _ _ HIN.out (MiP.ret HLT.out (Kept.to (Same.trans' K3.out K6.out) _) M7.out hw1 hg46 _ _ _)⟩
    · have EM : Hid (N = (M, an0)) := (show N = _ from ENN.out).trans (by unfold doM; rw [if_neg (by rw [eD]; exact hU)])
      have hU2 : (codeU M s != 0) = true := by simpa using hU
      have hU3 : (codeU M s == 0) = false := by simpa using hU
      clear hB es ei eD b2 b2' b3 b3' ENN ECD HI
      generalize codeU M s = cu at *
      go_wp2_with fail
      refine Calls.mono (HMF.out W K3.out) ?_
      rintro r w5 ⟨rfl, k5⟩
      obtain ⟨hg35, y0, y1, y2, y3, y4⟩ := StB.cells (StB.on HB3.out k5)
      have K5 : Hid (Kept W w5) := k5
      clear k5
      go_wp2_with fail
      refine Calls.mono (HUT.out w5 (Same.trans' K3.out K5.out)) ?_
      rintro r w6 ⟨rfl, k6⟩
      have K6 : Hid (Kept W w6) := Same.trans' K5.out k6
      have HB2 : Hid (AnB w6 g4 an0) := HREF.out w6 K6.out
      obtain ⟨⟨z0, z1, z2⟩, hl2, q0, q1, q2⟩ := AnB.cells HB2.out
      clear k6
      go_wp2_with fail
      refine bodyPost_ret (results_ct (a := 4) (t := 54) (u := 5) rfl rfl (loadVar_an (a := an0) (AnB.put HB2.out an0))) rfl ?_
      rw [show N = _ from EM.out, show cd = _ from ECU.out]
      exact ⟨rfl, HRFM.out w6 K6.out⟩
  · have eD : codeD M s = codeB M.ses.length s := by unfold codeD; rw [if_pos hB]
    have ECU : Hid (cd = codeB M.ses.length s) := (show cd = _ from ECD.out).trans eD
    have EM : Hid (N = (M, an0)) := (show N = _ from ENN.out).trans (by unfold doM; rw [if_neg (by rw [eD]; exact hB)])
    have hU2 : (codeB M.ses.length s != 0) = true := by simpa using hB
    have hU3 : (codeB M.ses.length s == 0) = false := by simpa using hB
    clear eD ENN ECD HI
    generalize codeB M.ses.length s = cb at *
    go_wp2_with fail
    refine Calls.mono (HMF.out W K3.out) ?_
    rintro r w5 ⟨rfl, k5⟩
    have K5 : Hid (Kept W w5) := k5
    have HB2 : Hid (AnB w5 g4 an0) := HREF.out w5 K5.out
    obtain ⟨⟨z0, z1, z2⟩, hl2, q0, q1, q2⟩ := AnB.cells HB2.out
    clear k5
    go_wp2_with fail
    refine bodyPost_ret (results_ct (a := 4) (t := 54) (u := 5) rfl rfl (loadVar_an (a := an0) (AnB.put HB2.out an0))) rfl ?_
    rw [show N = _ from EM.out, show cd = _ from ECU.out]
    exact ⟨rfl, HRFM.out w5 K5.out⟩
set_option maxRecDepth 100000 in
theorem now15 {F : Nat → Prop} {w : World} {mb : Nat} {M : Mm} (h : Mk F w mb M) : Calls Try.prog 21 #[.pointer (some ⟨mb, 0, none⟩)] w fun e w' => e = .returned (.int .i64 M.clock) ∧ w' = w := by
  obtain ⟨-, tg, sb, vb, lv, P, L, hm, -⟩ := h
  obtain ⟨hmb, ⟨-, c1, -⟩, -⟩ := Mi.cells hm
  clear hm
  go_enter Try.func21, Try.ntmps21
  go_wp2_with fail
  go_ret
  exact ⟨rfl, rfl⟩
set_option maxRecDepth 100000 in
set_option maxHeartbeats 800000 in
theorem active15 {F : Nat → Prop} {w : World} {mb : Nat} {M : Mm} (h : Mk F w mb M) {i : Nat} (hi : i < M.ses.length) : Calls Try.prog 9 #[.pointer (some ⟨mb, 0, none⟩), .int .i64 (i : Int)] w fun e w' => e = .returned (.bool (M.at i).act.isSome) ∧ w' = w := by
  obtain ⟨hv, tg, sb, vb, lv, P, L, hm, -⟩ := h
  obtain ⟨hmb, ⟨-, -, -, c3, -⟩, -⟩ := Mi.cells hm
  obtain ⟨hsb, -, d1, -⟩ := hm.sess hi
  have hs1 := hv.s1
  have hp : (M.at i).act.isSome = (P i).isSome := by
    cases e : (M.at i).act with
    | none => rw [hm.non i e]; rfl
    | some a =>
      obtain ⟨g, ov, tv, hp, -⟩ := hm.act i a e
      rw [hp]
      rfl
  rw [hp]
  clear hp hm hv
  generalize M.ses.length = n at *
  have hi2 : (i : Int) < (n : Int) := by omega
  have hi3 : decide ((i : Int) < (n : Int)) = true := decide_eq_true hi2
  cases e : P i with
  | none =>
    rw [e] at d1
    simp only [Option.map_none] at d1
    clear e
    go_enter Try.func9, Try.ntmps9
    go_wp2_with fail
    go_ret
    exact ⟨rfl, rfl⟩
  | some g =>
    rw [e] at d1
    simp only [Option.map_some] at d1
    clear e
    go_enter Try.func9, Try.ntmps9
    go_wp2_with fail
    go_ret
    exact ⟨rfl, rfl⟩
end Go.Proofs.Ytmghmacgljihcaa
