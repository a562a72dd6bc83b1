/- What is proved: the anchor of the machine's laws answers true; free gives a machine whose session 3 is idle, and tells whether it may go on; the machine lies in memory. -/
import Derived.Test.YtmlefbpdlgnkgabKAnch
namespace Go.Proofs.Ytmlefbpdlgnkgab
open Go.RowKit

theorem MkN.good {w w' : World} {mb : Nat} {M : Mm} (h : MkN w w' mb M) : Good M.A := by
  obtain ⟨F, ⟨-, tg, sb, vb, lv, P, L, hm, -⟩, -⟩ := h
  exact hm.st.good
theorem Sx.new {n : Nat} (h0 : 1 ≤ n) (h1 : n ≤ 64) : Sx n (newM n 0) 0 [] 0 (fun _ => none) := ⟨Ok.new h0 h1, rfl, rfl, rfl, fun j => by rw [at_new]; rfl⟩
set_option maxRecDepth 100000 in
set_option maxHeartbeats 1600000 in
theorem anchor15 (w : World) : Calls Try.prog 6 #[] w fun e w' => e = .returned (.bool true) ∧ Kept w w' := by
  have HN : Hid _ := newN w 1 (by decide) (by decide)
  have s0 := Sx.new (n := 1) (by decide) (by decide)
  obtain ⟨M1, a1, e1, c1, f1, o1, s1⟩ := s0.begin (i := 0) (by decide) rfl (by decide) (by decide)
  obtain ⟨M2, e2, c2, s2⟩ := s1.write (i := 0) (a := a1) (k := ⟨#[97]⟩) (v := ⟨#[120]⟩) rfl (by rw [o1]; decide) ⟨by decide, by decide⟩ (by decide) (by decide)
  obtain ⟨M3, e3, c3, s3⟩ := (s2.commit (i := 0) (k := ⟨#[97]⟩) (v := ⟨#[120]⟩) rfl (by show a1.t.ops ++ _ = _; rw [o1]; rfl) ⟨by decide, by decide⟩ (by decide) (by decide) (by decide)).1 rfl
  have HE1 : Hid _ := And.intro e1 c1
  have HE2 : Hid _ := And.intro e2 c2
  have HE3 : Hid _ := And.intro e3 c3
  have HS3 : Hid _ := s3
  clear s0 s1 s2 s3 c1 c2 c3 e1 e2 e3 f1 o1
  go_enter Try.func6, Try.ntmps6
  go_wp2_with fail
  refine Calls.mono HN.out ?_
  rintro e w1 ⟨mb, rfl, m1⟩
  have D1 : Hid _ := MkN.doN m1 1 0 0 e0 e0 (by decide) (by decide) HE1.out.1 HE1.out.2
  clear m1
  go_wp2_with fail
  refine Calls.mono D1.out ?_
  rintro e w2 ⟨rfl, m2⟩
  have D2 : Hid _ := MkN.doN m2 3 0 0 ⟨#[97]⟩ ⟨#[120]⟩ (by decide) (by decide) HE2.out.1 HE2.out.2
  clear m2
  go_wp2_with fail
  refine Calls.mono D2.out ?_
  rintro e w3 ⟨rfl, m3⟩
  have D3 : Hid _ := MkN.doN m3 5 0 0 e0 e0 (by decide) (by decide) HE3.out.1 HE3.out.2
  clear m3
  go_wp2_with fail
  refine Calls.mono D3.out ?_
  rintro e w4 ⟨rfl, m4⟩
  have m5 := MkN.on m4 ((Same.refl _ w4).alloc (.cells #[.bool false, .string e0, .int .i64 1] 28 (0, 0)))
  have D4 : Hid _ := MkN.valN m5 ⟨#[97]⟩ (by decide) (x := ⟨3, 0, true, ⟨#[120]⟩⟩) (Sx.val (A := []) HS3.out (MkN.good m5) (by decide) (fun e he => by cases he))
  have M5 : Hid _ := m5
  have HB : Hid (AnB (w4.alloc (.cells #[.bool false, .string e0, .int .i64 1] 28 (0, 0))) w4.heap.size ⟨false, e0, 1⟩) := heap_new _ _
  clear m4 m5
  go_wp2_with fail
  refine Calls.mono D4.out ?_
  rintro e w6 ⟨rfl, k6⟩
  have m6 := MkN.on M5.out k6
  have D5 : Hid _ := MkN.nowN m6 (c := 3) (Sx.clock HS3.out)
  obtain ⟨⟨-, -, z2⟩, hl2, -⟩ := AnB.cells ((k6.block w4.heap.size (lt_of_heap HB.out) (fun e => e)).trans HB.out : AnB w6 w4.heap.size ⟨false, e0, 1⟩)
  have K6 : Hid (Kept w w6) := MkN.kept m6
  clear m6 k6
  go_wp2_with fail
  refine Calls.mono D5.out ?_
  rintro e w7 ⟨rfl, rfl⟩
  go_wp2_with fail
  go_ret
  exact ⟨rfl, K6.out⟩
/-- Session 3 made idle. -/
def freeM (M : Mm) : Mm := if (M.at 3).act.isSome = true then (doM M ⟨6, 3, 0, e0, e0⟩).1 else M
def freeB (M : Mm) : Bool := !(M.at 3).act.isSome && decide (M.clock < 549755813888) && decide (M.log.length < 4000)
theorem Ok.free {n : Nat} {M : Mm} (h : Ok n M) : Ok n (freeM M) := by
  unfold freeM
  split
  · exact h.step _
  · exact h
set_option maxRecDepth 100000 in
set_option maxHeartbeats 1600000 in
theorem free15 {w w' : World} {mb : Nat} {M : Mm} (h : MkN w w' mb M) (hok : Ok 4 M) {fr : Bool} {M' : Mm} (eM : freeM M = M') (ef : freeB M' = fr) : Calls Try.prog 8 #[.pointer (some ⟨mb, 0, none⟩)] w' fun e w'' => e = .returned (.bool fr) ∧ MkN w w'' mb M' := by
  have hl : 3 < M.ses.length := by rw [hok.len]; decide
  have hl' : 3 < M'.ses.length := by rw [← eM, hok.free.len]; decide
  obtain ⟨b3, eb3⟩ : ∃ b, (M.at 3).act.isSome = b := ⟨_, rfl⟩
  have HA : Hid _ := MkN.activeN h hl eb3
  have H0 : Hid (MkN w w' mb M) := h
  have HD : Hid (b3 = true → Calls Try.prog 9 #[.pointer (some ⟨mb, 0, none⟩), .agg #[.int .i64 6, .int .i64 3, .int .i64 0, .string e0, .string e0]] w' fun r w'' => r = .returned (.tuple #[.agg #[.bool (doM M ⟨6, 3, 0, e0, e0⟩).2.found, .string (doM M ⟨6, 3, 0, e0, e0⟩).2.value, .int .i64 (doM M ⟨6, 3, 0, e0, e0⟩).2.status], .int .i64 (codeD M ⟨6, 3, 0, e0, e0⟩)]) ∧ MkN w w'' mb M') := fun hb => by
    refine MkN.doN h 6 3 0 e0 e0 (by decide) (by decide) ?_ rfl
    rw [← eM]
    unfold freeM
    rw [eb3, if_pos hb]
  have HNO : Hid (b3 = false → MkN w w' mb M') := fun hb => by
    rw [← eM]
    unfold freeM
    rw [eb3, if_neg (by rw [hb]; decide)]
    exact h
  obtain ⟨b4, eb4⟩ : ∃ b, (M'.at 3).act.isSome = b := ⟨_, rfl⟩
  obtain ⟨cl, ecl⟩ : ∃ cl, M'.clock = cl := ⟨_, rfl⟩
  obtain ⟨ln, eln⟩ : ∃ ln, M'.log.length = ln := ⟨_, rfl⟩
  have HR : Hid (fr = (!b4 && decide (cl < 549755813888) && decide (ln < 4000))) := by
    show fr = _
    rw [← ef]
    unfold freeB
    rw [eb4, ecl, eln]
  have HQ : Hid (∀ W, MkN w W mb M' → (Calls Try.prog 16 #[.pointer (some ⟨mb, 0, none⟩), .int .i64 3] W fun e w'' => e = .returned (.bool b4) ∧ w'' = W) ∧ (Calls Try.prog 15 #[.pointer (some ⟨mb, 0, none⟩)] W fun e w'' => e = .returned (.int .i64 cl) ∧ w'' = W) ∧ (Calls Try.prog 11 #[.pointer (some ⟨mb, 0, none⟩)] W fun e w'' => ∃ a c, e = .returned (.slice a ln c) ∧ Kept W w'')) := fun W hW => ⟨MkN.activeN hW hl' eb4, MkN.nowN hW ecl, MkN.logN hW eln⟩
  have hcb : cl ≤ 1099511627776 ∧ 0 ≤ cl := by rw [← ecl, ← eM]; exact ⟨hok.free.inv.c1, hok.free.inv.c0⟩
  clear h hok eM ef hl hl' eb3 eb4 ecl eln
  cases b3 with
  | true =>
    have HD2 : Hid _ := HD.out rfl
    generalize (doM M ⟨6, 3, 0, e0, e0⟩).2 = A at HD2
    generalize codeD M ⟨6, 3, 0, e0, e0⟩ = cd at HD2
    clear HD HNO
    go_enter Try.func8, Try.ntmps8
    go_wp2_with fail
    refine Calls.mono HA.out ?_
    rintro e w2 ⟨rfl, h2⟩
    subst w2
    go_wp2_with fail
    refine Calls.mono HD2.out ?_
    rintro e w3 ⟨rfl, m3⟩
    have M3 : Hid (MkN w w3 mb M') := m3
    obtain ⟨q1, q2, q3⟩ := HQ.out w3 m3
    have Q1 : Hid _ := q1
    have Q2 : Hid _ := q2
    have Q3 : Hid _ := q3
    clear m3 q1 q2 q3 HQ HA HD2
    go_wp2_with fail
    refine Calls.mono Q1.out ?_
    rintro e w4 ⟨rfl, h4⟩
    subst w4
    cases b4 with
    | true =>
      go_wp2_with fail
      go_ret
      exact ⟨by rw [show fr = _ from HR.out]; rfl, M3.out⟩
    | false =>
      go_wp2_with fail
      refine Calls.mono Q2.out ?_
      rintro e w4 ⟨rfl, h4⟩
      subst w4
      by_cases d1 : cl < 549755813888
      · have d2 : decide (cl < 549755813888) = true := decide_eq_true d1
        go_wp2_with fail
        refine Calls.mono Q3.out ?_
        rintro e w4 ⟨la, lc, rfl, k4⟩
        have M4 : Hid _ := MkN.on M3.out k4
        clear k4
        by_cases d3 : ln < 4000
        · have d4 : decide ((ln : Int) < 4000) = true := decide_eq_true (by omega)
          have d5 : (ln : Int) < 4000 := by omega
          go_wp2_with fail
          go_ret
          exact ⟨by rw [show fr = _ from HR.out, decide_eq_true d1, decide_eq_true d3]; rfl, M4.out⟩
        · have d4 : decide ((ln : Int) < 4000) = false := decide_eq_false (by omega)
          have d5 : ¬ (ln : Int) < 4000 := by omega
          go_wp2_with fail
          go_ret
          exact ⟨by rw [show fr = _ from HR.out, decide_eq_true d1, decide_eq_false d3]; rfl, M4.out⟩
      · have d2 : decide (cl < 549755813888) = false := decide_eq_false d1
        go_wp2_with fail
        go_ret
        exact ⟨by rw [show fr = _ from HR.out, decide_eq_false (show ¬ cl < 549755813888 by omega)]; rfl, M3.out⟩
  | false =>
    have M3 : Hid (MkN w w' mb M') := HNO.out rfl
    obtain ⟨q1, q2, q3⟩ := HQ.out w' M3.out
    have Q1 : Hid _ := q1
    have Q2 : Hid _ := q2
    have Q3 : Hid _ := q3
    clear q1 q2 q3 HQ HD HNO
    go_enter Try.func8, Try.ntmps8
    go_wp2_with fail
    refine Calls.mono HA.out ?_
    rintro e w2 ⟨rfl, h2⟩
    subst w2
    go_wp2_with fail
    refine Calls.mono Q1.out ?_
    rintro e w4 ⟨rfl, h4⟩
    subst w4
    cases b4 with
    | true =>
      go_wp2_with fail
      go_ret
      exact ⟨by rw [show fr = _ from HR.out]; rfl, M3.out⟩
    | false =>
      go_wp2_with fail
      refine Calls.mono Q2.out ?_
      rintro e w4 ⟨rfl, h4⟩
      subst w4
      by_cases d1 : cl < 549755813888
      · have d2 : decide (cl < 549755813888) = true := decide_eq_true d1
        go_wp2_with fail
        refine Calls.mono Q3.out ?_
        rintro e w4 ⟨la, lc, rfl, k4⟩
        have M4 : Hid _ := MkN.on M3.out k4
        clear k4
        by_cases d3 : ln < 4000
        · have d4 : decide ((ln : Int) < 4000) = true := decide_eq_true (by omega)
          have d5 : (ln : Int) < 4000 := by omega
          go_wp2_with fail
          go_ret
          exact ⟨by rw [show fr = _ from HR.out, decide_eq_true d1, decide_eq_true d3]; rfl, M4.out⟩
        · have d4 : decide ((ln : Int) < 4000) = false := decide_eq_false (by omega)
          have d5 : ¬ (ln : Int) < 4000 := by omega
          go_wp2_with fail
          go_ret
          exact ⟨by rw [show fr = _ from HR.out, decide_eq_true d1, decide_eq_false d3]; rfl, M4.out⟩
      · have d2 : decide (cl < 549755813888) = false := decide_eq_false d1
        go_wp2_with fail
        go_ret
        exact ⟨by rw [show fr = _ from HR.out, decide_eq_false (show ¬ cl < 549755813888 by omega)]; rfl, M3.out⟩
end Go.Proofs.Ytmlefbpdlgnkgab
