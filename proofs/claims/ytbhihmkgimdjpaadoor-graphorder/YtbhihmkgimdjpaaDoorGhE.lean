/- What is proved: search goes by breadth; the table lies in memory, and the library's table as its text lays it. -/
import Derived.Test.YtbhihmkgimdjpaaDoorGhZ
import Derived.Deep.RegionHeld3
namespace Go.Proofs.YtbhihmkgimdjpaaDoor
open Go.RowKit

theorem make_is (w : World) (n : Nat) (hn : n ≤ 1024) : (Instr.makeSlice 41 (.int .i64 (n : Int)) (.int .i64 (n : Int))).run Tryd.prog w = .ok (.slice (some ⟨w.heap.size, 0, none⟩) n n) (w.alloc (.cells (madeCells #[.int .i64 0] n) 3)) := by
  obtain ⟨i0, hi0, hz0, hz1, hz2⟩ := info_parts Tryd.infoInt
  have hr := run_make (P := Tryd.prog) w 41 3 i0 _ Tryd.underlying41 hi0 hz0 .i64 .i64 n n (by omega) (by omega) (by rw [hz2]; omega) (by omega)
  have hc : (Value.int .i64 0).cells = #[.int .i64 0] := by rfl
  simp only [Int.toNat_natCast, hz1, hc, Nat.mul_one] at hr
  exact hr
def nL (n j : Nat) : List Int := List.replicate j (-1) ++ List.replicate (n - j) 0
theorem nL_len {n j : Nat} (h : j ≤ n) : (nL n j).length = n := by simp [nL]; omega
theorem nL_set {n j : Nat} (h : j < n) : (nL n j).set j (-1) = nL n (j + 1) := by
  have e : List.replicate (n - j) (0 : Int) = 0 :: List.replicate (n - (j + 1)) 0 := by rw [← List.replicate_succ]; congr 1; omega
  unfold nL
  rw [e, List.set_append_right _ _ (by simp), List.length_replicate, Nat.sub_self, List.set_cons_zero, List.replicate_succ', List.append_assoc]
  rfl
theorem nL_end (n : Nat) : nL n n = cL n (fun _ => none) := by unfold nL; rw [Nat.sub_self, List.replicate_zero, List.append_nil, cL_rep]
set_option maxRecDepth 100000 in
set_option maxHeartbeats 6400000 in
theorem search19 {w : World} {n g s bs : Nat} {l : List Nat} {A : Nat → Nat → Bool} (hT : TabG w) (hn : n ≤ 1024) (hs : s < n) (ho : OwnW bs w (.slice (some ⟨g, 0, none⟩) (n * wN n) (n * wN n)) l) (hl : l.length = n * wN n) (ht : Tbl (wN n) l A) (hA : ∀ a b, A a b = true → b < n) :
    Calls Tryd.prog 35 #[tbV n g (n * wN n) (n * wN n), .int .i64 (s : Int)] w fun e w' => ∃ gc c q, e = .returned (.slice (some ⟨gc, 0, none⟩) n n) ∧ OwnI w.heap.size w' (.slice (some ⟨gc, 0, none⟩) n n) (cL n c) ∧ Rn n A s q.length c q ∧ Kept w w' := by
  have HT : Hid (TabG w) := hT
  have HO : Hid (OwnW bs w (.slice (some ⟨g, 0, none⟩) (n * wN n) (n * wN n)) l ∧ l.length = n * wN n ∧ Tbl (wN n) l A) := ⟨ho, hl, ht⟩
  have HA : Hid (∀ a b, A a b = true → b < n) := hA
  have HN : Hid (∀ W, _) := fun W => newSet19 n hn W
  have hm := fun W => make_is W n hn
  have HB : Hid (n ≤ 1024 ∧ s < n) := ⟨hn, hs⟩
  clear hT ho hl ht hA
  go_enter Tryd.func35, Tryd.ntmps35
  go_upto_region 2 with fail
  obtain ⟨H, eH⟩ : ∃ H, H = w.heap.size := ⟨_, rfl⟩
  have HH : Hid (H = w.heap.size) := eH
  have z0 : Hid (((w.alloc (tbO n g (n * wN n) (n * wN n))).alloc (.cells (madeCells #[.int .i64 0] n) 3)).heap[H]? = some (tbO n g (n * wN n) (n * wN n)) ∧ OwnI (H + 1) ((w.alloc (tbO n g (n * wN n) (n * wN n))).alloc (.cells (madeCells #[.int .i64 0] n) 3)) (.slice (some ⟨H + 1, 0, none⟩) n n) (List.replicate n 0) ∧ Kept w ((w.alloc (tbO n g (n * wN n) (n * wN n))).alloc (.cells (madeCells #[.int .i64 0] n) 3))) := by
    refine ⟨(heap_old _ _ (by rw [World.size_alloc]; omega)).trans (by rw [eH]; exact heap_new w _), ?_, ((Same.refl _ w).alloc _).alloc _⟩
    have := own_made1 ekI (T := 3) (0 : Int) (.int .i64 0) rfl (w.alloc (tbO n g (n * wN n) (n * wN n))) n (by unfold maxLen; omega)
    rw [World.size_alloc, ← eH] at this
    exact this
  rw [← eH]
  generalize (w.alloc (tbO n g (n * wN n) (n * wN n))).alloc (.cells (madeCells #[.int .i64 0] n) 3) = W0 at z0 ⊢
  clear hm eH
  obtain ⟨N, eN⟩ : ∃ N, N = n * wN n := ⟨_, rfl⟩
  rw [← eN] at z0 ⊢
  have HNN : Hid (N = n * wN n) := eN
  clear eN
  go_wp2_with fail
  go_loopw [19] (fun i wr => ∃ j : Nat, i = .int .i64 (j : Int) ∧ j ≤ n ∧ OwnI (H + 1) wr (.slice (some ⟨H + 1, 0, none⟩) n n) (nL n j) ∧ wr.heap[H]? = some (tbO n g N N) ∧ Kept w wr) (fun i _ => n - (intOf i).toNat)
  case atStart => exact ⟨0, rfl, Nat.zero_le _, by have := z0.out.2.1; rwa [show List.replicate n (0 : Int) = nL n 0 by simp [nL]] at this, z0.out.1, z0.out.2.2⟩
  case round =>
    obtain ⟨j, rfl, hj, oj, tj, kj⟩ := hrel
    rename World => WL
    have HW : Hid (OwnI (H + 1) WL (.slice (some ⟨H + 1, 0, none⟩) n n) (nL n j) ∧ WL.heap[H]? = some (tbO n g N N) ∧ Kept w WL) := ⟨oj, tj, kj⟩
    by_cases hlt : j < n
    · have c1 : (j : Int) < (n : Int) := by omega
      have c2 : (j : Int) ≤ 1024 := by have := HB.out.1; omega
      obtain ⟨x0, hx0⟩ : ∃ x0, (nL n j)[j]? = some x0 := ⟨_, List.getElem?_eq_getElem (by rw [nL_len hj]; exact hlt)⟩
      obtain ⟨p1, p2, p3⟩ := oj.cell1 ekI hx0 rfl
      obtain ⟨o2, s2⟩ := oj.set1 ekI (j := j) (by rw [nL_len hj]; exact hlt) (-1) rfl
      rw [nL_set hlt] at o2
      have HO2 : Hid (OwnI (H + 1) (WL.setCell ⟨H + 1, j, none⟩ (.int .i64 (-1))) (.slice (some ⟨H + 1, 0, none⟩) n n) (nL n (j + 1)) ∧ Same (fun b => b = H + 1) WL (WL.setCell ⟨H + 1, j, none⟩ (.int .i64 (-1)))) := ⟨o2, s2⟩
      clear oj tj kj hx0 o2 s2 z0
      go_wp2_with fail
      go_roundw
      case rel => exact ⟨j + 1, by simp, hlt, HO2.out.1, (HO2.out.2.block H (lt_of_heap HW.out.2.1) (fun e => by have e : H = H + 1 := e; omega)).trans HW.out.2.1, HW.out.2.2.trans HO2.out.2 (fun i hi e => by have e : i = H + 1 := e; have := HH.out; omega)⟩
      case measure => simp only [intOf]; omega
    · obtain rfl : n = j := by omega
      have c1 : ¬ (n : Int) < (n : Int) := by omega
      have t0 : WL.cell? ⟨H, 0, none⟩ = some (.int .i64 n) := (cell_of tj 0).trans rfl
      rw [nL_end] at HW oj
      have hgc : H + 1 < WL.heap.size := by
        obtain ⟨-, cu, hg9⟩ := oj.block (b := H + 1) rfl
        exact lt_of_heap hg9
      clear oj tj kj z0
      go_upto_region 9 with (go_at_call 38; refine Calls.mono (HN.out _) ?_; rintro r w1 ⟨rfl, rfl⟩)
      obtain ⟨gs, egs⟩ : ∃ gs, gs = WL.heap.size := ⟨_, rfl⟩
      have hgs : H + 1 < gs := by omega
      rw [← egs]
      have HS0 : Hid (Sr w ((WL.alloc (.cells (madeCells #[.int .u64 0] (wN n)) 93)).alloc (.cells #[.int .i64 (s : Int)] 3)) H n (H + 1) gs g N (.slice (some ⟨gs + 1, 0, none⟩) 1 1) (fun _ => none) (List.replicate (wN n) 0) [s]) := by
        obtain ⟨o1, o2, o3⟩ := HW.out
        have hww := wN_le hn
        have ow := own_words WL (wN n) (by omega)
        have k1 : Kept WL (WL.alloc (.cells (madeCells #[.int .u64 0] (wN n)) 93)) := (Same.refl _ WL).alloc _
        have k2 : Kept (WL.alloc (.cells (madeCells #[.int .u64 0] (wN n)) 93)) ((WL.alloc (.cells (madeCells #[.int .u64 0] (wN n)) 93)).alloc (.cells #[.int .i64 (s : Int)] 3)) := (Same.refl _ _).alloc _
        have hq := heap_new (WL.alloc (.cells (madeCells #[.int .u64 0] (wN n)) 93)) (.cells #[.int .i64 (s : Int)] 3)
        rw [World.size_alloc, ← egs] at hq
        rw [← egs] at ow
        refine ⟨((o1.on k1).on k2).base (by have := HH.out; omega), ((ow.on k2)).base (by have := HH.out; omega), by simp, ?_, ?_, ?_, (o3.trans' k1).trans' k2⟩
        · refine ⟨by simp [qL, fl], .inr ⟨gs + 1, 1, _, by simp [qL], by have := HH.out; omega, hq, by simp [qL], by unfold maxLen; omega, by simp, by simp [qL, fl]⟩⟩
        · intro e
          simp [Value.ownBlock] at e
          omega
        · exact (k2.block H (by rw [World.size_alloc]; omega) (fun e => e)).trans ((k1.block H (by omega) (fun e => e)).trans o2)
      generalize (WL.alloc (.cells (madeCells #[.int .u64 0] (wN n)) 93)).alloc (.cells #[.int .i64 (s : Int)] 3) = W2 at HS0 ⊢
      clear HW t0 hgc egs HN
      generalize hvq : Value.slice (some ⟨gs + 1, 0, none⟩) 1 1 = vq at HS0 ⊢
      have HT2 : Hid (Wds (List.replicate (wN n) 0) (fun y => ((fun _ => none : Nat → Option Nat) y).isSome)) := (Wds.zero _).congr fun _ => rfl
      clear hvq
      go_wp2_with fail
      go_loopw [8, 9] (fun v8 i9 wr => ∃ (k : Nat) (c : Nat → Option Nat) (q sl : List Nat), i9 = .int .i64 (k : Int) ∧ Sr w wr H n (H + 1) gs g N v8 c sl q ∧ Wds sl (fun y => (c y).isSome) ∧ Rn n A s k c q) (fun _ i _ => 2000 - (intOf i).toNat)
      case atStart => exact ⟨0, _, _, _, rfl, HS0.out, HT2.out, .start⟩
      case round =>
        obtain ⟨k, c, q, sl, rfl, sr, hw, rn⟩ := hrel
        rename World => WL2
        have bf := rn.bf HA.out
        have hbd := bf.bound
        have hkl := bf.le
        have hn' := HB.out.1
        by_cases hk : k < q.length
        · obtain ⟨x, hx⟩ : ∃ x, q[k]? = some x := ⟨_, List.getElem?_eq_getElem hk⟩
          have hxn := bf.node HB.out.2 hx
          obtain ⟨qa, qc, ev, hqc, hq0, hqa⟩ := sr.q.shape
          rw [qL_len] at ev hqc
          obtain ⟨gq, eqa⟩ : ∃ gq, qa = some ⟨gq, 0, none⟩ := by
            cases qa with
            | none => have := (hq0 rfl).1; have h9 := qL_len q; rw [this] at h9; simp at h9; omega
            | some ad => obtain ⟨gq, e, -⟩ := hqa ad rfl; exact ⟨gq, by rw [e]⟩
          rw [eqa] at ev
          subst ev
          have HX : Hid (q[k]? = some x ∧ x < n ∧ q.length ≤ 1025 ∧ k < q.length) := ⟨hx, hxn, by omega, hk⟩
          have HSR : Hid (Sr w WL2 H n (H + 1) gs g N (.slice (some ⟨gq, 0, none⟩) q.length qc) c sl q ∧ Wds sl (fun y => (c y).isSome)) := ⟨sr, hw⟩
          have HRN : Hid (Rn n A s k c q) := rn
          have HCX : Hid (∀ W, Grw WL2 W → Grw WL2 W ∧ W.cell? ⟨H, 0, none⟩ = some (.int .i64 n) ∧ W.cell? ⟨H, 1, none⟩ = some (.slice (some ⟨g, 0, none⟩) N N) ∧ W.cell? ⟨gq, k, none⟩ = some (.int .i64 x)) := fun W kw => by
            have sr2 := HSR.out.1.on kw.kept
            exact ⟨kw, (cell_of sr2.t 0).trans rfl, (cell_of sr2.t 1).trans rfl, (sr2.q.cell1 ekI (qL_at HX.out.1) rfl).1⟩
          have HRC : Hid (∀ W, _) := fun W => row19 n x g hn hxn W
          have hk1 : (k : Int) < (q.length : Int) := by omega
          have hk2 : (k : Int) ≤ 1025 := by omega
          have hk3 : decide ((k : Int) < (q.length : Int)) = true := decide_eq_true hk1
          obtain ⟨kz, d0, d1, d2⟩ := HCX.out WL2 (Grw.refl _)
          have q4 : N = n * wN n := HNN.out
          generalize hql : q.length = ql at *
          clear kz sr hw rn bf hbd hkl hx hqc hq0 hqa eqa HS0 HT2 hn'
          subst q4
          go_upto_region 12 with fail
          go_region_held3 (fun W => Grw WL2 W ∧ W.cell? ⟨H, 0, none⟩ = some (.int .i64 n) ∧ W.cell? ⟨H, 1, none⟩ = some (.slice (some ⟨g, 0, none⟩) (n * wN n) (n * wN n)) ∧ W.cell? ⟨gq, k, none⟩ = some (.int .i64 x))
            (exact HCX.out _ (by (repeat (first | exact Grw.refl _ | assumption | (refine Grw.trans ?_ (by assumption)) | apply Grw.alloc | apply Grw.drew | apply Grw.drewN)); done))
            (first
            | (go_at_call 51; refine Calls.mono (HRC.out _) ?_; rintro r w4 ⟨⟨cap, rfl⟩, g4⟩))
          have K4 : Grw WL2 w4 := (by (repeat (first | exact Grw.refl _ | assumption | (refine Grw.trans ?_ (by assumption)) | apply Grw.alloc | apply Grw.drew | apply Grw.drewN)); done)
          have HS4 : Hid (Sr w w4 H n (H + 1) gs g (n * wN n) (.slice (some ⟨gq, 0, none⟩) ql qc) c sl q ∧ Wds sl (fun y => (c y).isSome)) := ⟨HSR.out.1.on K4.kept, HSR.out.2⟩
          have hww := wN_le hn
          obtain ⟨Wn, eWn⟩ : ∃ Wn, Wn = wN n := ⟨_, rfl⟩
          have HWn : Hid (Wn = wN n ∧ Wn ≤ 16) := ⟨eWn, by omega⟩
          clear K4 g4 HSR HCX HRC d0 d1 d2 hww
          go_wp2_with fail
          rw [← eWn]
          clear eWn
          go_loopw [8, 44] (fun v8 i44 wr => ∃ (i : Nat) (sl2 : List Nat), i44 = .int .i64 (i : Int) ∧ i ≤ Wn ∧ Sr w wr H n (H + 1) gs g (n * wN n) v8 (took A c x (64 * i)) sl2 (q ++ newsTo A c x (64 * i)) ∧ Wds sl2 (fun y => (took A c x (64 * i) y).isSome)) (fun _ i _ => Wn - (intOf i).toNat)
          case atStart => exact ⟨0, sl, rfl, Nat.zero_le _, by rw [Nat.mul_zero, took_zero, newsTo_zero, List.append_nil]; exact HS4.out.1, by rw [Nat.mul_zero, took_zero]; exact HS4.out.2⟩
          case round =>
            obtain ⟨i, sl2, rfl, hi, sr, hw⟩ := hrel
            rename World => WL3
            have HSI : Hid (Sr w WL3 H n (H + 1) gs g (n * wN n) _ (took A c x (64 * i)) sl2 (q ++ newsTo A c x (64 * i)) ∧ Wds sl2 (fun y => (took A c x (64 * i) y).isSome)) := ⟨sr, hw⟩
            by_cases hiW : i < Wn
            · have hiw : i < wN n := by rw [← HWn.out.1]; exact hiW
              have hxr := row_le HX.out.2.1
              obtain ⟨ho, hll, htb⟩ := HO.out
              obtain ⟨wd, hwd⟩ : ∃ wd, l[x * wN n + i]? = some wd := ⟨_, List.getElem?_eq_getElem (by rw [hll]; omega)⟩
              obtain ⟨sw, hsw⟩ : ∃ sw, sl2[i]? = some sw := ⟨_, List.getElem?_eq_getElem (by rw [sr.sl]; exact hiw)⟩
              obtain ⟨hwlt, hwb⟩ := htb.row hiw hwd
              have a1 := ((ho.on sr.k).cell1 ekU hwd rfl).1
              rw [← HWn.out.1] at a1
              have a2 := (sr.s.cell1 ekU hsw rfl).1
              have hi1 : (i : Int) < (Wn : Int) := by omega
              have hi2 : (i : Int) ≤ 16 := by have := HWn.out.2; omega
              have HWD : Hid (wd < 18446744073709551616 ∧ (∀ b, b < 64 → wd.testBit b = A x (64 * i + b)) ∧ sl2[i]? = some sw ∧ sw < 18446744073709551616 ∧ i < wN n ∧ i < Wn) := ⟨hwlt, hwb, hsw, (hw _ _ hsw).1, hiw, hiW⟩
              have hand := andn_bits wd sw
              have hF0 : Hid (Fr A c x i (64 * i) (andn wd sw)) := Fr.start hwb (fun b hb => by
                have h3 := (hw _ _ hsw).2 b hb
                simp only at h3
                rw [h3, took_ge (by omega)])
              clear sr hw ho hll htb hwd hsw hwlt hwb hxr hiw
              go_wp2_with fail
              go_loopw [12, 8] (fun f12 v8 wr => ∃ (u fr : Nat), f12 = .int .u64 (fr : Nat) ∧ 64 * i ≤ u ∧ u ≤ 64 * i + 64 ∧ Fr A c x i u fr ∧ Sr w wr H n (H + 1) gs g (n * wN n) v8 (took A c x u) sl2 (q ++ newsTo A c x u)) (fun f _ _ => (intOf f).toNat)
              case atStart => exact ⟨64 * i, andn wd sw, by first | rfl | rw [hand], Nat.le_refl _, by omega, hF0.out, HSI.out.1⟩
              case round =>
                obtain ⟨u, fr, rfl, hu1, hu2, hfr, sr⟩ := hrel
                rename World => WL4
                have HS5 : Hid (Sr w WL4 H n (H + 1) gs g (n * wN n) _ (took A c x u) sl2 (q ++ newsTo A c x u)) := sr
                have HU : Hid (64 * i ≤ u ∧ u ≤ 64 * i + 64 ∧ Fr A c x i u fr) := ⟨hu1, hu2, hfr⟩
                by_cases hz : fr = 0
                · subst hz
                  have a2 := (sr.s.cell1 ekU HWD.out.2.2.1 rfl)
                  obtain ⟨b1, b2, -⟩ := a2
                  have hor := bits_or_u64_nat sw wd HWD.out.2.2.2.1 HWD.out.1
                  clear sr hu1 hu2 hfr a2
                  go_wp2_with fail
                  have hov := HU.out.2.2.over HU.out.1
                  have eN1 : took A c x (64 * (i + 1)) = took A c x u := took_skip A (by have := HU.out; omega) (fun y h1 h2 => hov y h1 (by omega))
                  have eN2 : newsTo A c x (64 * (i + 1)) = newsTo A c x u := newsTo_skip A (by have := HU.out; omega) (fun y h1 h2 => hov y h1 (by omega))
                  exact ⟨⟨i + 1, sl2.set i (sw ||| wd), by simp, HWD.out.2.2.2.2.2, by rw [eN1, eN2]; exact HS5.out.setS HWD.out.2.2.2.2.1 _, seen_step HSI.out.2 HWD.out.2.2.1 HWD.out.1 HWD.out.2.1⟩, by simp only [intOf]; have := HWD.out.2.2.2.2.2; omega⟩
                · have hz1 : ((fr : Int) != 0) = true := by simp; omega
                  have HZ : Hid (fr ≠ 0 ∧ fr < 18446744073709551616) := ⟨hz, hfr.lt⟩
                  have HTZ : Hid _ := tz19 hz hfr.lt (HT.out.on sr.k)
                  obtain ⟨qa2, qc2, ev2, hqc2, hq02, hqa2⟩ := sr.q.shape
                  have hql2 : (qL (q ++ newsTo A c x u)).length = ql + (newsTo A c x u).length := by rw [qL_len, List.length_append, hql]
                  rw [hql2] at ev2 hqc2
                  obtain ⟨gq2, eqa2⟩ : ∃ gq2, qa2 = some ⟨gq2, 0, none⟩ := by
                    cases qa2 with
                    | none => have h9 := (hq02 rfl).1; rw [h9] at hql2; simp at hql2; have := HX.out; omega
                    | some ad => obtain ⟨gq2, e, -⟩ := hqa2 ad rfl; exact ⟨gq2, by rw [e]⟩
                  rw [eqa2] at ev2
                  subst ev2
                  have hqk : (q ++ newsTo A c x u)[k]? = some x := by rw [List.getElem?_append_left (by have := HX.out; omega)]; exact HX.out.1
                  have d5 := (sr.q.cell1 ekI (qL_at hqk) rfl).1
                  have HQL : Hid (k < ql + (newsTo A c x u).length ∧ (newsTo A c x u).length ≤ 1024) := ⟨by have := HX.out; omega, by
                    have h8 : (newsTo A c x u).length ≤ u := by
                      have := List.length_filter_le (new1 A c x) (List.range u)
                      rwa [List.length_range] at this
                    have := HU.out
                    have := HWD.out.2.2.2.2.2
                    have := HWn.out.2
                    omega⟩
                  obtain ⟨nl, enl⟩ : ∃ nl, nl = ql + (newsTo A c x u).length := ⟨_, rfl⟩
                  rw [← enl] at sr HS5 hqc2 ⊢
                  have hkn : (k : Int) < (nl : Int) := by have := HQL.out; omega
                  have hkn2 : (k : Int) ≤ 1025 := by have := HX.out; omega
                  have HNL2 : Hid (nl = ql + (newsTo A c x u).length) := enl
                  clear hu1 hu2 hfr hz hq02 hqa2 eqa2 hqk hql2 enl
                  go_wp2_with fail
                  obtain ⟨zi, ezi⟩ : ∃ zi : Int, zi = (i : Int) * 64 := ⟨_, rfl⟩
                  rw [← ezi]
                  refine Calls.mono HTZ.out ?_
                  rintro r w5 ⟨⟨k2, m2, hk2, hfm, rfl⟩, rfl⟩
                  obtain ⟨f1, f2, f3, f4⟩ := HU.out.2.2.next hk2 hfm
                  obtain ⟨y, ey⟩ : ∃ y, y = 64 * i + k2 := ⟨_, rfl⟩
                  rw [← ey] at f1 f2 f3 f4
                  have hyn : y < n := HA.out x y (by simp [new1] at f2; exact f2.1)
                  have eN1 : took A c x u = took A c x y := (took_skip A f1 (fun z h1 h2 => f3 z h1 h2 HU.out.1)).symm
                  have eN2 : newsTo A c x u = newsTo A c x y := (newsTo_skip A f1 (fun z h1 h2 => f3 z h1 h2 HU.out.1)).symm
                  have hsum : zi + (k2 : Int) = (y : Int) := by omega
                  have hzi : 0 ≤ zi ∧ zi ≤ 1024 := by omega
                  have hyi : (y : Int) < (n : Int) := by omega
                  obtain ⟨p1, p2, -⟩ := sr.c.cell1 ekI (cL_at hyn) rfl
                  have srC := sr.setC (c' := took A c x (y + 1)) hyn (x := (x : Int)) (by unfold cv; rw [took_succ A f2]; simp) (fun z hz9 => by rw [took_succ A f2, eN1]; simp [hz9])
                  have hap := and_pred HZ.out.1 HZ.out.2
                  have HF : Hid (Fr A c x i (y + 1) (fr &&& (fr - 1)) ∧ 64 * i ≤ y + 1 ∧ y + 1 ≤ 64 * i + 64 ∧ newsTo A c x (y + 1) = newsTo A c x u ++ [y] ∧ fr &&& (fr - 1) < fr) := ⟨f4, by omega, by omega, by rw [newsTo_succ A f2, eN2], and_pred_lt HZ.out.1⟩
                  have hyb : y ≤ 1024 := by omega
                  clear f1 f2 f3 f4 eN1 eN2 hfm sr ezi ey
                  have HSC : Hid (Sr w _ H n (H + 1) gs g (n * wN n) _ (took A c x (y + 1)) sl2 (q ++ newsTo A c x u)) := srC
                  have srD := srC.on ((Same.refl (fun _ => False) _).alloc (.cells #[.int .i64 (y : Int)] 3))
                  have HAP : Hid (∀ ty, _) := fun ty => srD.app (y := y) (by rw [List.length_append]; have := HX.out; have := HQL.out; omega) (heap_new _ _) ty
                  clear srC srD hyn
                  go_upto_region 20 with fail
                  generalize w5.setCell ⟨H + 1, y, none⟩ (.int .i64 x) = W6 at HSC HAP ⊢
                  clear p1 p2
                  go_wp2_with (at_builtin; refine wpList_app rfl (.tmp 73) (.tmp 75) 41 rfl (.slice (some ⟨gq2, 0, none⟩) nl qc2) (.slice (some ⟨W6.heap.size, 0, none⟩) 1 1) rfl rfl _ HAP.out ?_; rintro v7 w7 s7; have HS7 : Hid (Sr w w7 H n (H + 1) gs g (n * wN n) v7 (took A c x (y + 1)) sl2 (q ++ newsTo A c x u ++ [y])) := s7; clear s7)
                  exact ⟨⟨y + 1, fr &&& (fr - 1), rfl, HF.out.2.1, HF.out.2.2.1, HF.out.1, by rw [HF.out.2.2.2.1, ← List.append_assoc]; exact HS7.out⟩, by simp only [intOf]; have := HF.out.2.2.2.2; omega⟩
            · obtain rfl : i = Wn := by omega
              have hi1 : ¬ (i : Int) < (i : Int) := by omega
              clear sr hw
              go_wp2_with fail
              have hge : n ≤ 64 * i := by have := HWn.out.1; unfold wN at this; omega
              have hno : ∀ y, n ≤ y → y < 64 * i → new1 A c x y = false := fun y h1 _ => by
                cases h9 : A x y
                · simp [new1, h9]
                · exact absurd (HA.out x y h9) (by omega)
              have e1 := took_skip A (c := c) (x := x) hge hno
              have e2 := newsTo_skip A (c := c) (x := x) hge hno
              obtain ⟨sr, hw⟩ := HSI.out
              rw [e1, e2] at sr
              rw [e1] at hw
              exact ⟨⟨_, _, ⟨k + 1, by simp, _, _, _, sr, hw, HRN.out.step HX.out.1⟩, congrArg (fun z => n * z) HWn.out.1, HWn.out.1, rfl, rfl, HWn.out.1⟩, by simp only [intOf]; have := HX.out; omega⟩
        · have hke : k = q.length := by omega
          subst hke
          have HE : Hid (Sr w WL2 H n (H + 1) gs g N _ c sl q ∧ Rn n A s q.length c q) := ⟨sr, rn⟩
          obtain ⟨qa, qc, ev, hqc, hq0, hqa⟩ := sr.q.shape
          rw [qL_len] at ev
          subst ev
          have hk1 : ¬ ((q.length : Nat) : Int) < ((q.length : Nat) : Int) := by omega
          clear sr hw rn bf hq0 hqa hqc
          go_wp2_with fail
          go_ret
          exact ⟨H + 1, rfl, c, HE.out.1.c, ⟨q, HE.out.2⟩, HE.out.1.k⟩
end Go.Proofs.YtbhihmkgimdjpaaDoor
