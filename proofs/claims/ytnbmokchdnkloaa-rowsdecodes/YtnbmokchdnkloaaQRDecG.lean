/- What is proved: the document's Decode answers the row of a list of bytes that begins with one; the bounds that a machine's memory sets. -/
import Derived.Test.YtnbmokchdnkloaaQRDecW
namespace Go.Proofs.Ytnbmokchdnkloaa
open Go.RowKit

theorem Same.set9 {b o : Nat} {w w' : World} {u : Value} (h : Same (fun k => k = b) w w') : Same (fun k => k = b) w (w'.setCell ⟨b, o, none⟩ u) := Same.setCell (S := fun k => k = b) h ⟨b, o, none⟩ (.inr rfl) u
set_option maxRecDepth 100000 in
set_option maxHeartbeats 4000000 in
theorem refDec9_good (w : World) (oa : Option Addr) (c : Nat) (l : List Int) (h : ArgB w oa c l) {rn : RwM × Nat} (hgood : dec9 l = .ok rn) : Calls Try.prog 18 #[.slice oa l.length c] w (DecP w l) := by
  have R0 : Hid _ := RC.new h
  have HG : Hid _ := hgood
  clear hgood
  have HIN : Hid (∀ k, InB oa l.length k → k < w.heap.size) := fun k hk => h.data.lt hk
  have HBY : Hid _ := h.byts
  have HB : Hid (∀ W, RC W (w.heap.size + 1) oa c l 0 0 → _) := fun W (u : RC W (w.heap.size + 1) oa c l 0 0) => step_byte u 0 0
  have HN : Hid (∀ W q m, RC W (w.heap.size + 1) oa c l q 0 → _) := fun W q m (u : RC W (w.heap.size + 1) oa c l q 0) => stepN u m
  have HT : Hid (∀ W q, RC W (w.heap.size + 1) oa c l q 0 → _) := fun W q (u : RC W (w.heap.size + 1) oa c l q 0) => stepT u
  obtain ⟨L, eL⟩ : ∃ L, L = l.length := ⟨_, rfl⟩
  have EL : Hid _ := eL
  rw [← eL] at R0 ⊢
  clear h eL
  rcases l with - | ⟨x0, lr⟩
  · have := HG.out
    cases this
  have er : rByte (x0 :: lr) 0 0 = ((x0, 0), (1, 0)) := by
    unfold rByte
    rw [if_neg (by decide), if_neg (by simp)]
    rfl
  rw [er] at HB
  have hx0 := HBY.out x0 (by simp)
  clear er
  by_cases hk : 1 ≤ x0 ∧ x0 ≤ 3
  · have HDQ : Hid (dec9 (x0 :: lr) = run (tailP x0 ms5 []) ((x0 :: lr).drop 1) 1) := if_pos hk
    have d1 : decide (x0 < 1) = false := decide_eq_false (by omega)
    have d2 : decide (3 < x0) = false := decide_eq_false (by omega)
    have d1' : ¬ x0 < 1 := by omega
    have d2' : ¬ 3 < x0 := by omega
    generalize hl1 : x0 :: lr = l at *
    clear hl1 hk hx0
    go_enter Try.func18, Try.ntmps18
    go_wp2_with fail
    refine Calls.mono (HB.out _ R0.out) ?_
    rintro e w1 ⟨rfl, u1, s1⟩
    have hz1 : w.heap.size + 1 < w1.heap.size := Nat.lt_of_lt_of_le (by simp [World.size_alloc]) s1.size
    have S1 : Hid _ := s1
    have U1 : Hid _ := u1
    clear u1 s1
    go_wp2_with fail
    have DQ0 : Hid (Dq w ((w1.alloc (.cells most5 47 (0, 0))).alloc (.cells (f5 []) 47 (0, 0))) w1.heap.size oa c l 1 []) := by
      have hb1 := (S1.out.block w.heap.size (by simp [World.size_alloc]; omega) (by omega)).trans ((heap_old _ _ (by simp [World.size_alloc])).trans (heap_new w _))
      have kA : Kept w1 ((w1.alloc (.cells most5 47 (0, 0))).alloc (.cells (f5 []) 47 (0, 0))) := ((Same.refl _ w1).alloc _).alloc _
      exact ⟨((((Same.refl _ w).alloc _).alloc _).trans S1.out (fun i hi e => by omega)).trans' kA, (kA.block _ (lt_of_heap hb1) (fun e => e)).trans hb1, U1.out.on kA, (heap_old _ _ (by simp [World.size_alloc])).trans (heap_new w1 _), two_new9 w1 _ _, HIN.out, hz1⟩
    generalize w1.heap.size = mb at DQ0 hz1 ⊢
    clear S1 U1 R0 HB
    go_loopw [11] (fun i wr => ∃ (xs : List Int) (q : Nat), i = .int .i64 xs.length ∧ xs.length ≤ 5 ∧ Dq w wr mb oa c l q xs ∧ dec9 l = run (tailP x0 (ms5.drop xs.length) xs) (l.drop q) q) (fun i _ => 5 - (intOf i).toNat)
    case atStart => exact ⟨[], 1, rfl, by decide, DQ0.out, HDQ.out⟩
    case round =>
      obtain ⟨xs, q, rfl, hj, hdn, hrun⟩ := hrel
      have HDN : Hid _ := hdn
      have HRUN : Hid _ := hrun
      clear DQ0 hdn hrun HDQ
      obtain ⟨⟨c0, c1, c2, c3, c4, c5, c6⟩, y0, y1, y2, y3, y4, y5, y6⟩ := row_obj HDN.out.b0
      have hltb := lt_of_heap HDN.out.b0
      by_cases hlt : xs.length < 5
      · obtain ⟨m, hm⟩ : ∃ m, ms5[xs.length]? = some m := ⟨_, List.getElem?_eq_getElem (by exact hlt)⟩
        have k2 := (cell_of HDN.out.b2 xs.length).trans (most5_get _ m hm)
        have hlm := lt_of_heap HDN.out.b2
        have hdr : ms5.drop xs.length = m :: ms5.drop (xs.length + 1) := by
          obtain ⟨hh, rfl⟩ := List.getElem?_eq_some_iff.1 hm
          exact List.drop_eq_getElem_cons hh
        rw [hdr] at HRUN
        obtain ⟨J, eJ⟩ : ∃ J, J = xs.length := ⟨_, rfl⟩
        have EJ : Hid _ := eJ
        rw [← eJ] at hj hlt k2 ⊢
        have d3 : decide ((J : Int) < 5) = true := decide_eq_true (by omega)
        have hlt2 : (J : Int) < 5 := by omega
        clear hm hdr eJ c0 c1 c2 c3 c4 c5 c6 y0 y1 y2 y3 y4 y5 y6
        go_wp2_with fail
        refine Calls.mono (HN.out _ _ m HDN.out.rc) ?_
        rintro e w2 ⟨s2, p2⟩
        rcases h2 : rd (.nm m) (l.drop q) with z | ⟨⟨x, y⟩, n⟩
        · rw [h2] at p2
          simp only at p2
          obtain ⟨rfl, u2⟩ := p2
          have HE : Hid _ := HRUN.out.trans (run_ask_err h2)
          have := HE.out.symm.trans HG.out
          cases this
        rw [h2] at p2
        simp only at p2
        obtain ⟨rfl, u2⟩ := p2
        have dn2 := HDN.out.step s2 u2
        have hl3 := lt_of_heap dn2.b3
        have f3 : w2.frozen? ⟨mb + 1, J, none⟩ = false := frozen_of dn2.b3 J
        have c3' : w2.cell? ⟨mb + 1, J, none⟩ = some (.int .i64 (xs.getD J 0)) := (cell_of dn2.b3 J).trans (f5_get xs J hlt (by rw [← EJ.out]; exact hj))
        have DP : Hid _ := dn2.put (x : Int) (by rw [← EJ.out]; exact hlt)
        have HR2 : Hid _ := HRUN.out.trans (run_ask_ok h2)
        rw [List.drop_drop] at HR2
        rw [← EJ.out] at DP HR2
        clear dn2 s2 u2 h2 k2
        go_wp2_with fail
        go_roundw
        case rel => exact ⟨xs ++ [(x : Int)], q + n, by rw [List.length_append, ← EJ.out]; rfl, by rw [List.length_append, ← EJ.out]; exact hlt, DP.out, by rw [List.length_append, ← EJ.out]; exact HR2.out⟩
        case measure => simp only [intOf]; omega
      · have e5 : xs.length = 5 := by omega
        have hrun := HRUN.out
        rw [e5, show ms5.drop 5 = [] from rfl] at hrun
        have HR5 : Hid (dec9 l = run (tailP x0 [] xs) (l.drop q) q) := hrun
        have cs : ∀ j, j < 5 → wr.cell? ⟨mb + 1, j, none⟩ = some (.int .i64 (xs.getD j 0)) := fun j hj' => (cell_of HDN.out.b3 j).trans (f5_get xs j hj' hj)
        rw [e5, show ((5 : Nat) : Int) = 5 from rfl]
        have d3 : decide ((5 : Int) < 5) = false := rfl
        clear hrun HRUN hlt hj c0 c1 c2 c3 c4 c5 c6 y0 y1 y2 y3 y4 y5 y6
        go_wp2_with fail
        refine Calls.mono (HT.out _ _ HDN.out.rc) ?_
        rintro e w2 ⟨s2, p2⟩
        have g0 := (s2.block _ (lt_of_heap HDN.out.b0) (by omega)).trans HDN.out.b0
        obtain ⟨⟨c0, c1, c2, c3, c4, c5, c6⟩, y0, y1, y2, y3, y4, y5, y6⟩ := row_obj g0
        have hl2 := lt_of_heap g0
        have G0 : Hid _ := g0
        have KK : Hid (Kept w w2) := HDN.out.kept.trans s2 (fun i hi e => by omega)
        rcases h2 : rd (.tx 0 512) (l.drop q) with z | ⟨⟨x, y⟩, n⟩
        · rw [h2] at p2
          simp only at p2
          obtain ⟨ta, tn, tc, rfl, u2⟩ := p2
          have HE : Hid _ := HR5.out.trans (run_ask_err h2)
          have := HE.out.symm.trans HG.out
          cases this
        · rw [h2] at p2
          simp only at p2
          obtain ⟨tg, tf, tc, rfl, hby, -, u2⟩ := p2
          have HE : Hid (dec9 l = .ok (⟨x0, xs.getD 0 0, xs.getD 1 0, xs.getD 2 0, xs.getD 3 0, xs.getD 4 0, strOfNums y⟩, q + n)) := HR5.out.trans (run_ask_ok h2)
          have HCV : Hid (∀ W', Same (fun k => k = w.heap.size) w2 W' → (convert 28 9 (.slice (some ⟨tg, tf, none⟩) y.length tc)).run Try.prog W' = .ok (.string (strOfNums y)) W') := fun W' k => convert_bytes (c := tc) (hby.kept k (text_apart hby G0.out))
          obtain ⟨-, cq, -⟩ := u2.cells
          have hrl := u2.lt
          have b3' := (s2.block _ (lt_of_heap HDN.out.b3) (by have := HDN.out.lt; omega)).trans HDN.out.b3
          have f0 := (cell_of b3' 0).trans (f5_get xs 0 (by decide) (by omega))
          have f1 := (cell_of b3' 1).trans (f5_get xs 1 (by decide) (by omega))
          have f2 := (cell_of b3' 2).trans (f5_get xs 2 (by decide) (by omega))
          have f3 := (cell_of b3' 3).trans (f5_get xs 3 (by decide) (by omega))
          have f4 := (cell_of b3' 4).trans (f5_get xs 4 (by decide) (by omega))
          have hlb3 := lt_of_heap b3'
          generalize xs.getD 0 0 = z0 at f0 HE
          generalize xs.getD 1 0 = z1 at f1 HE
          generalize xs.getD 2 0 = z2 at f2 HE
          generalize xs.getD 3 0 = z3 at f3 HE
          generalize xs.getD 4 0 = z4 at f4 HE
          obtain ⟨Q, eQ⟩ : ∃ Q, Q = q + n := ⟨_, rfl⟩
          rw [← eQ] at HE cq
          obtain ⟨S, eS⟩ : ∃ S, S = strOfNums y := ⟨_, rfl⟩
          rw [← eS] at HE HCV
          obtain ⟨Y, eY⟩ : ∃ Y, Y = y.length := ⟨_, rfl⟩
          rw [← eY] at HCV ⊢
          have hmb := HDN.out.lt
          have HBX : Hid (∀ W', Same (fun k => k = w.heap.size) w2 W' → Same (fun k => k = w.heap.size) w2 W' ∧ (convert 28 9 (.slice (some ⟨tg, tf, none⟩) Y tc)).run Try.prog W' = .ok (.string S) W' ∧ W'.cell? ⟨mb + 1, 0, none⟩ = some (.int .i64 z0) ∧ W'.cell? ⟨mb + 1, 1, none⟩ = some (.int .i64 z1) ∧ W'.cell? ⟨mb + 1, 2, none⟩ = some (.int .i64 z2) ∧ W'.cell? ⟨mb + 1, 3, none⟩ = some (.int .i64 z3) ∧ W'.cell? ⟨mb + 1, 4, none⟩ = some (.int .i64 z4) ∧ W'.cell? ⟨w.heap.size + 1, 1, none⟩ = some (.int .i64 (Q : Int))) := fun W' k =>
            ⟨k, HCV.out W' k, (k.cell (p := ⟨mb + 1, 0, none⟩) hlb3 (by show ¬ mb + 1 = _; omega)).trans f0, (k.cell (p := ⟨mb + 1, 1, none⟩) hlb3 (by show ¬ mb + 1 = _; omega)).trans f1, (k.cell (p := ⟨mb + 1, 2, none⟩) hlb3 (by show ¬ mb + 1 = _; omega)).trans f2, (k.cell (p := ⟨mb + 1, 3, none⟩) hlb3 (by show ¬ mb + 1 = _; omega)).trans f3, (k.cell (p := ⟨mb + 1, 4, none⟩) hlb3 (by show ¬ mb + 1 = _; omega)).trans f4, (k.cell (p := ⟨w.heap.size + 1, 1, none⟩) hrl (by show ¬ w.heap.size + 1 = _; omega)).trans cq⟩
          have HP7 : Hid _ := put7_same w2 w.heap.size (.int .i64 x0) (.int .i64 z0) (.int .i64 z1) (.int .i64 z2) (.int .i64 z3) (.int .i64 z4) (.string S)
          have hcv := HCV.out w2 (Same.refl _ _)
          clear g0 s2 u2 h2 hby b3' cs e5 eQ eS eY HN HT HIN HBY HR5 HG HCV HDN d1 d2 d1' d2' d3 hltb
          go_wp2_with fail
          go_region_held3 (fun w' => Same (fun k => k = w.heap.size) w2 w' ∧ (convert 28 9 (.slice (some ⟨tg, tf, none⟩) Y tc)).run Try.prog w' = .ok (.string S) w' ∧ w'.cell? ⟨mb + 1, 0, none⟩ = some (.int .i64 z0) ∧ w'.cell? ⟨mb + 1, 1, none⟩ = some (.int .i64 z1) ∧ w'.cell? ⟨mb + 1, 2, none⟩ = some (.int .i64 z2) ∧ w'.cell? ⟨mb + 1, 3, none⟩ = some (.int .i64 z3) ∧ w'.cell? ⟨mb + 1, 4, none⟩ = some (.int .i64 z4) ∧ w'.cell? ⟨w.heap.size + 1, 1, none⟩ = some (.int .i64 (Q : Int)))
            (exact HBX.out _ (by (repeat (with_reducible (first | exact Same.refl _ _ | apply Same.drew | apply Same.set9))); done))
            (fail)
          all_goals
            go_wp2_with fail
            refine bodyPost_ret (results_ctt (a := 2) (t := 26) (u := 3) (s := 4) rfl rfl (loadVar_row_drew (w := put7 w2 w.heap.size (.int .i64 x0) (.int .i64 z0) (.int .i64 z1) (.int .i64 z2) (.int .i64 z3) (.int .i64 z4) (.string S)) (r := ⟨x0, z0, z1, z2, z3, z4, S⟩) (.inr rfl) (put7_at G0.out _ _ _ _ _ _ _))) rfl ?_
            refine ⟨(KK.out.trans HP7.out (fun i hi e => by omega)).drew, ?_⟩
            rw [HE.out]
            rfl
  · have HDQ : dec9 (x0 :: lr) = .error (0, 90) := if_neg hk
    have := HDQ.symm.trans HG.out
    cases this
end Go.Proofs.Ytnbmokchdnkloaa
