/- What is proved: the document's Decode answers the place and the error of a list of bytes that is no row; the bounds that a machine's memory sets. -/
import Derived.Test.YtnbmokchdnkloaaQRDec
namespace Go.Proofs.Ytnbmokchdnkloaa
open Go.RowKit

theorem RC.new {w : World} {oa : Option Addr} {c : Nat} {l : List Int} (h : ArgB w oa c l) : RC ((w.alloc (.cells zrow 26 (0, 0))).alloc (.cells #[.slice oa l.length c, .int .i64 0, .int .i64 0] 67 (0, 0))) (w.heap.size + 1) oa c l 0 0 := by
  have k : Kept w ((w.alloc (.cells zrow 26 (0, 0))).alloc (.cells #[.slice oa l.length c, .int .i64 0, .int .i64 0] 67 (0, 0))) := ((Same.refl _ w).alloc _).alloc _
  exact ⟨two_new9 w _ _, h.data.kept k (fun _ _ e => e), h.cap, Nat.zero_le _, fun k hk e => by have := h.data.lt hk; omega, h.byts, by have := h.le; omega⟩
theorem zrow_u8 (i : Nat) (a : Int) : zrow[i]? ≠ some (.int .u8 a) := by
  match i with
  | 0 => simp [zrow]
  | 1 => simp [zrow]
  | 2 => simp [zrow]
  | 3 => simp [zrow]
  | 4 => simp [zrow]
  | 5 => simp [zrow]
  | 6 => simp [zrow]
  | n + 7 => simp [zrow]
theorem text_apart {w : World} {b tg tf : Nat} {y : List Int} {ty : TypeId} (h : BytesAt w (some ⟨tg, tf, none⟩) y) (g : w.heap[b]? = some (.cells zrow ty (0, 0))) : ∀ k, InB (some ⟨tg, tf, none⟩) y.length k → ¬ k = b := by
  rintro k ⟨h0, off, e⟩ rfl
  simp only [Option.some.injEq, Addr.mk.injEq, and_true] at e
  obtain ⟨rfl, rfl⟩ := e
  obtain ⟨b', o', e', -, hc⟩ := h 0 _ (List.getElem?_eq_getElem h0)
  cases e'
  rw [cell_of g] at hc
  exact zrow_u8 _ _ hc
set_option maxRecDepth 100000 in
set_option maxHeartbeats 800000 in
theorem refDec9_bad (w : World) (oa : Option Addr) (c : Nat) (l : List Int) (h : ArgB w oa c l) {pz : Nat × Int} (hbad : dec9 l = .error pz) : Calls Try.prog 18 #[.slice oa l.length c] w (DecP w l) := by
  have R0 : Hid _ := RC.new h
  have HBAD : Hid _ := hbad
  clear hbad
  have HIN : Hid (∀ k, InB oa l.length k → k < w.heap.size) := fun k hk => h.data.lt hk
  have HBY : Hid _ := h.byts
  have HB : Hid (∀ W, RC W (w.heap.size + 1) oa c l 0 0 → _) := fun W (u : RC W (w.heap.size + 1) oa c l 0 0) => step_byte u 0 0
  have HN : Hid (∀ W q m, RC W (w.heap.size + 1) oa c l q 0 → _) := fun W q m (u : RC W (w.heap.size + 1) oa c l q 0) => stepN u m
  have HT : Hid (∀ W q, RC W (w.heap.size + 1) oa c l q 0 → _) := fun W q (u : RC W (w.heap.size + 1) oa c l q 0) => stepT u
  obtain ⟨L, eL⟩ : ∃ L, L = l.length := ⟨_, rfl⟩
  have EL : Hid _ := eL
  rw [← eL] at R0 ⊢
  clear h eL
  rcases l with - | ⟨x0, lr⟩
  · have er : rByte [] 0 0 = ((0, 51), (0, 51)) := rfl
    rw [er] at HB
    clear er
    go_enter Try.func18, Try.ntmps18
    go_wp2_with fail
    refine Calls.mono (HB.out _ R0.out) ?_
    rintro e w1 ⟨rfl, u1, s1⟩
    have b1 := (s1.block w.heap.size (by simp [World.size_alloc]; omega) (by omega)).trans ((heap_old _ _ (by simp [World.size_alloc])).trans (heap_new w _))
    obtain ⟨⟨c0, c1, c2, c3, c4, c5, c6⟩, y0, y1, y2, y3, y4, y5, y6⟩ := row_obj b1
    have hlt1 := lt_of_heap b1
    have B1 : Hid _ := b1
    have K1 : Hid (Kept w w1) := (((Same.refl _ w).alloc _).alloc _).trans s1 (fun i hi e => by omega)
    clear u1 s1 b1
    go_wp2_with fail
    refine bodyPost_ret (results_ctt (a := 2) (t := 26) (u := 3) (s := 4) rfl rfl (loadVar_row (r := r0) (.inr rfl) (put7_at B1.out _ _ _ _ _ _ _))) rfl ?_
    exact ⟨K1.out.trans (put7_same _ _ _ _ _ _ _ _ _) (fun i hi e => by omega), rfl⟩
  have er : rByte (x0 :: lr) 0 0 = ((x0, 0), (1, 0)) := by
    unfold rByte
    rw [if_neg (by decide), if_neg (by simp)]
    rfl
  rw [er] at HB
  have hx0 := HBY.out x0 (by simp)
  clear er
  by_cases hk : 1 ≤ x0 ∧ x0 ≤ 3
  · have HDQ : Hid (dec9 (x0 :: lr) = run (tailP x0 ms5 []) ((x0 :: lr).drop 1) 1) := if_pos hk
    have d1 : decide (x0 < 1) = false := decide_eq_false (by omega)
    have d2 : decide (3 < x0) = false := decide_eq_false (by omega)
    have d1' : ¬ x0 < 1 := by omega
    have d2' : ¬ 3 < x0 := by omega
    generalize hl1 : x0 :: lr = l at *
    clear hl1 hk hx0
    go_enter Try.func18, Try.ntmps18
    go_wp2_with fail
    refine Calls.mono (HB.out _ R0.out) ?_
    rintro e w1 ⟨rfl, u1, s1⟩
    have hz1 : w.heap.size + 1 < w1.heap.size := Nat.lt_of_lt_of_le (by simp [World.size_alloc]) s1.size
    have S1 : Hid _ := s1
    have U1 : Hid _ := u1
    clear u1 s1
    go_wp2_with fail
    have DQ0 : Hid (Dq w ((w1.alloc (.cells most5 47 (0, 0))).alloc (.cells (f5 []) 47 (0, 0))) w1.heap.size oa c l 1 []) := by
      have hb1 := (S1.out.block w.heap.size (by simp [World.size_alloc]; omega) (by omega)).trans ((heap_old _ _ (by simp [World.size_alloc])).trans (heap_new w _))
      have kA : Kept w1 ((w1.alloc (.cells most5 47 (0, 0))).alloc (.cells (f5 []) 47 (0, 0))) := ((Same.refl _ w1).alloc _).alloc _
      exact ⟨((((Same.refl _ w).alloc _).alloc _).trans S1.out (fun i hi e => by omega)).trans' kA, (kA.block _ (lt_of_heap hb1) (fun e => e)).trans hb1, U1.out.on kA, (heap_old _ _ (by simp [World.size_alloc])).trans (heap_new w1 _), two_new9 w1 _ _, HIN.out, hz1⟩
    generalize w1.heap.size = mb at DQ0 hz1 ⊢
    clear S1 U1 R0 HB
    go_loopw [11] (fun i wr => ∃ (xs : List Int) (q : Nat), i = .int .i64 xs.length ∧ xs.length ≤ 5 ∧ Dq w wr mb oa c l q xs ∧ dec9 l = run (tailP x0 (ms5.drop xs.length) xs) (l.drop q) q) (fun i _ => 5 - (intOf i).toNat)
    case atStart => exact ⟨[], 1, rfl, by decide, DQ0.out, HDQ.out⟩
    case round =>
      obtain ⟨xs, q, rfl, hj, hdn, hrun⟩ := hrel
      have HDN : Hid _ := hdn
      have HRUN : Hid _ := hrun
      clear DQ0 hdn hrun HDQ
      obtain ⟨⟨c0, c1, c2, c3, c4, c5, c6⟩, y0, y1, y2, y3, y4, y5, y6⟩ := row_obj HDN.out.b0
      have hltb := lt_of_heap HDN.out.b0
      by_cases hlt : xs.length < 5
      · obtain ⟨m, hm⟩ : ∃ m, ms5[xs.length]? = some m := ⟨_, List.getElem?_eq_getElem (by exact hlt)⟩
        have k2 := (cell_of HDN.out.b2 xs.length).trans (most5_get _ m hm)
        have hlm := lt_of_heap HDN.out.b2
        have hdr : ms5.drop xs.length = m :: ms5.drop (xs.length + 1) := by
          obtain ⟨hh, rfl⟩ := List.getElem?_eq_some_iff.1 hm
          exact List.drop_eq_getElem_cons hh
        rw [hdr] at HRUN
        obtain ⟨J, eJ⟩ : ∃ J, J = xs.length := ⟨_, rfl⟩
        have EJ : Hid _ := eJ
        rw [← eJ] at hj hlt k2 ⊢
        have d3 : decide ((J : Int) < 5) = true := decide_eq_true (by omega)
        have hlt2 : (J : Int) < 5 := by omega
        clear hm hdr eJ c0 c1 c2 c3 c4 c5 c6 y0 y1 y2 y3 y4 y5 y6
        go_wp2_with fail
        refine Calls.mono (HN.out _ _ m HDN.out.rc) ?_
        rintro e w2 ⟨s2, p2⟩
        rcases h2 : rd (.nm m) (l.drop q) with z | ⟨⟨x, y⟩, n⟩
        · rw [h2] at p2
          simp only at p2
          obtain ⟨rfl, u2⟩ := p2
          have hz' : (z != 0) = true := by simpa using rd_nz9 h2
          have HE : Hid _ := HRUN.out.trans (run_ask_err h2)
          have g0 := (s2.block _ (lt_of_heap HDN.out.b0) (by omega)).trans HDN.out.b0
          obtain ⟨⟨c0, c1, c2, c3, c4, c5, c6⟩, y0, y1, y2, y3, y4, y5, y6⟩ := row_obj g0
          have hl2 := lt_of_heap g0
          have G0 : Hid _ := g0
          obtain ⟨-, cq, -⟩ := u2.cells
          have hrl := u2.lt
          have KK : Hid (Kept w w2) := HDN.out.kept.trans s2 (fun i hi e => by omega)
          clear g0 s2 u2 h2 k2
          go_wp2_with fail
          go_region
          all_goals
            go_wp2_with fail
            refine bodyPost_ret (results_ctt (a := 2) (t := 26) (u := 3) (s := 4) rfl rfl (loadVar_row_drew (w := put7 w2 w.heap.size (.int .i64 0) (.int .i64 0) (.int .i64 0) (.int .i64 0) (.int .i64 0) (.int .i64 0) (.string .empty)) (r := r0) (.inr rfl) (put7_at G0.out _ _ _ _ _ _ _))) rfl ?_
            refine ⟨(KK.out.trans (put7_same _ _ _ _ _ _ _ _ _) (fun i hi e => by omega)).drew, ?_⟩
            rw [HE.out]
            rfl
        rw [h2] at p2
        simp only at p2
        obtain ⟨rfl, u2⟩ := p2
        have dn2 := HDN.out.step s2 u2
        have hl3 := lt_of_heap dn2.b3
        have f3 : w2.frozen? ⟨mb + 1, J, none⟩ = false := frozen_of dn2.b3 J
        have c3' : w2.cell? ⟨mb + 1, J, none⟩ = some (.int .i64 (xs.getD J 0)) := (cell_of dn2.b3 J).trans (f5_get xs J hlt (by rw [← EJ.out]; exact hj))
        have DP : Hid _ := dn2.put (x : Int) (by rw [← EJ.out]; exact hlt)
        have HR2 : Hid _ := HRUN.out.trans (run_ask_ok h2)
        rw [List.drop_drop] at HR2
        rw [← EJ.out] at DP HR2
        clear dn2 s2 u2 h2 k2
        go_wp2_with fail
        go_roundw
        case rel => exact ⟨xs ++ [(x : Int)], q + n, by rw [List.length_append, ← EJ.out]; rfl, by rw [List.length_append, ← EJ.out]; exact hlt, DP.out, by rw [List.length_append, ← EJ.out]; exact HR2.out⟩
        case measure => simp only [intOf]; omega
      · have e5 : xs.length = 5 := by omega
        have hrun := HRUN.out
        rw [e5, show ms5.drop 5 = [] from rfl] at hrun
        have HR5 : Hid (dec9 l = run (tailP x0 [] xs) (l.drop q) q) := hrun
        have cs : ∀ j, j < 5 → wr.cell? ⟨mb + 1, j, none⟩ = some (.int .i64 (xs.getD j 0)) := fun j hj' => (cell_of HDN.out.b3 j).trans (f5_get xs j hj' hj)
        rw [e5, show ((5 : Nat) : Int) = 5 from rfl]
        have d3 : decide ((5 : Int) < 5) = false := rfl
        clear hrun HRUN hlt hj c0 c1 c2 c3 c4 c5 c6 y0 y1 y2 y3 y4 y5 y6
        go_wp2_with fail
        refine Calls.mono (HT.out _ _ HDN.out.rc) ?_
        rintro e w2 ⟨s2, p2⟩
        have g0 := (s2.block _ (lt_of_heap HDN.out.b0) (by omega)).trans HDN.out.b0
        obtain ⟨⟨c0, c1, c2, c3, c4, c5, c6⟩, y0, y1, y2, y3, y4, y5, y6⟩ := row_obj g0
        have hl2 := lt_of_heap g0
        have G0 : Hid _ := g0
        have KK : Hid (Kept w w2) := HDN.out.kept.trans s2 (fun i hi e => by omega)
        rcases h2 : rd (.tx 0 512) (l.drop q) with z | ⟨⟨x, y⟩, n⟩
        · rw [h2] at p2
          simp only at p2
          obtain ⟨ta, tn, tc, rfl, u2⟩ := p2
          have hz' : (z != 0) = true := by simpa using rd_nz9 h2
          have HE : Hid _ := HR5.out.trans (run_ask_err h2)
          obtain ⟨-, cq, -⟩ := u2.cells
          have hrl := u2.lt
          clear g0 s2 u2 h2
          go_wp2_with fail
          go_region
          all_goals
            go_wp2_with fail
            refine bodyPost_ret (results_ctt (a := 2) (t := 26) (u := 3) (s := 4) rfl rfl (loadVar_row_drew (w := put7 w2 w.heap.size (.int .i64 0) (.int .i64 0) (.int .i64 0) (.int .i64 0) (.int .i64 0) (.int .i64 0) (.string .empty)) (r := r0) (.inr rfl) (put7_at G0.out _ _ _ _ _ _ _))) rfl ?_
            refine ⟨(KK.out.trans (put7_same _ _ _ _ _ _ _ _ _) (fun i hi e => by omega)).drew, ?_⟩
            rw [HE.out]
            rfl
        · rw [h2] at p2
          simp only at p2
          have HE : Hid (dec9 l = .ok (⟨x0, xs.getD 0 0, xs.getD 1 0, xs.getD 2 0, xs.getD 3 0, xs.getD 4 0, strOfNums y⟩, q + n)) := HR5.out.trans (run_ask_ok h2)
          have := HE.out.symm.trans HBAD.out
          cases this
  · have HDQ : Hid (dec9 (x0 :: lr) = .error (0, 90)) := if_neg hk
    by_cases hk1 : x0 < 1
    · have d1 : decide (x0 < 1) = true := decide_eq_true hk1
      generalize hl1 : x0 :: lr = l at *
      clear hl1 hk hx0 HN HT
      go_enter Try.func18, Try.ntmps18
      go_wp2_with fail
      refine Calls.mono (HB.out _ R0.out) ?_
      rintro e w1 ⟨rfl, u1, s1⟩
      have b1 := (s1.block w.heap.size (by simp [World.size_alloc]; omega) (by omega)).trans ((heap_old _ _ (by simp [World.size_alloc])).trans (heap_new w _))
      obtain ⟨⟨c0, c1, c2, c3, c4, c5, c6⟩, y0, y1, y2, y3, y4, y5, y6⟩ := row_obj b1
      have hlt1 := lt_of_heap b1
      have B1 : Hid _ := b1
      have K1 : Hid (Kept w w1) := (((Same.refl _ w).alloc _).alloc _).trans s1 (fun i hi e => by omega)
      clear u1 s1 b1
      go_wp2_with fail
      refine bodyPost_ret (results_ctt (a := 2) (t := 26) (u := 3) (s := 4) rfl rfl (loadVar_row (r := r0) (.inr rfl) (put7_at B1.out _ _ _ _ _ _ _))) rfl ?_
      refine ⟨K1.out.trans (put7_same _ _ _ _ _ _ _ _ _) (fun i hi e => by omega), ?_⟩
      rw [HDQ.out]
      rfl
    · have d1 : decide (x0 < 1) = false := decide_eq_false hk1
      have d2 : decide (3 < x0) = true := decide_eq_true (by omega)
      generalize hl1 : x0 :: lr = l at *
      clear hl1 hk hx0 HN HT hk1
      go_enter Try.func18, Try.ntmps18
      go_wp2_with fail
      refine Calls.mono (HB.out _ R0.out) ?_
      rintro e w1 ⟨rfl, u1, s1⟩
      have b1 := (s1.block w.heap.size (by simp [World.size_alloc]; omega) (by omega)).trans ((heap_old _ _ (by simp [World.size_alloc])).trans (heap_new w _))
      obtain ⟨⟨c0, c1, c2, c3, c4, c5, c6⟩, y0, y1, y2, y3, y4, y5, y6⟩ := row_obj b1
      have hlt1 := lt_of_heap b1
      have B1 : Hid _ := b1
      have K1 : Hid (Kept w w1) := (((Same.refl _ w).alloc _).alloc _).trans s1 (fun i hi e => by omega)
      clear u1 s1 b1
      go_wp2_with fail
      refine bodyPost_ret (results_ctt (a := 2) (t := 26) (u := 3) (s := 4) rfl rfl (loadVar_row (r := r0) (.inr rfl) (put7_at B1.out _ _ _ _ _ _ _))) rfl ?_
      refine ⟨K1.out.trans (put7_same _ _ _ _ _ _ _ _ _) (fun i hi e => by omega), ?_⟩
      rw [HDQ.out]
      rfl
end Go.Proofs.Ytnbmokchdnkloaa
