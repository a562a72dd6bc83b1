/- What is proved: the law ConfigOrder; condition: the library's table of powers lies as its text lays it. -/
import Derived.Test.YtolooejcgdknnaaDoorCfO
import Derived.Deep.DeepCutAuto
namespace Go.Proofs.YtolooejcgdknnaaDoor
open Go.RowKit

set_option maxRecDepth 100000 in
set_option maxHeartbeats 6400000 in
theorem order_law (x : Cg) (tu dr : Int) (w : World) (ht : Tab w.heap.size w) : Calls Tryd.prog 6 #[.agg #[.int .i64 x.a, .int .i64 x.b, .int .i64 x.c, .int .i64 x.d, .int .i64 x.e], .int .i64 tu, .int .i64 dr] w fun e w' => e = .returned (.bool true) ∧ Kept w w' := by
  have HA : Hid (∀ W, Kept w W → _) := fun W k => anchor_any23 W (ht.upK W k)
  have HU : Hid (∀ W, _) := rusual_any
  have HC : Hid (∀ W, _) := rcheck_any23 x
  have HT : Hid (∀ a b c d e, Nn ⟨a, b, c, d, e⟩ → ∀ W, Calls Tryd.prog 12 #[.agg #[.int .i64 a, .int .i64 b, .int .i64 c, .int .i64 d, .int .i64 e]] W fun r w' => r = .returned (tx (pr ⟨a, b, c, d, e⟩ 5)) ∧ Kept W w') := fun a b c d e h W => rtext_cf ⟨a, b, c, d, e⟩ h W
  have HP : Hid (∀ (l : List UInt8), l.length ≤ 281474976710656 → ∀ W, _) := fun l h W => parse_cf l W h
  clear ht
  go_enter Tryd.func6, Tryd.ntmps6
  go_wp2_with fail
  refine Calls.mono (HA.out _ ((Same.refl _ w).alloc _)) ?_
  rintro r w1 ⟨rfl, k1⟩
  have K1 : Hid (Kept w w1) := ((Same.refl _ w).alloc _).trans' k1
  have B1 : Hid (w1.heap[w.heap.size]? = some (.cells #[.int .i64 x.a, .int .i64 x.b, .int .i64 x.c, .int .i64 x.d, .int .i64 x.e] 23 (0, 0))) := (k1.block _ (by simp) (fun e => e)).trans (heap_new _ _)
  clear k1
  have c0 : w1.cell? ⟨w.heap.size, 0, none⟩ = some (.int .i64 x.a) := cell_of B1.out 0
  have c1 : w1.cell? ⟨w.heap.size, 1, none⟩ = some (.int .i64 x.b) := cell_of B1.out 1
  have c2 : w1.cell? ⟨w.heap.size, 2, none⟩ = some (.int .i64 x.c) := cell_of B1.out 2
  have c3 : w1.cell? ⟨w.heap.size, 3, none⟩ = some (.int .i64 x.d) := cell_of B1.out 3
  have c4 : w1.cell? ⟨w.heap.size, 4, none⟩ = some (.int .i64 x.e) := cell_of B1.out 4
  have yl := lt_of_heap B1.out
  go_wp2_with fail
  refine Calls.mono (HC.out _) ?_
  rintro r w2 ⟨rfl, k2⟩
  have K2 : Hid (Kept w w2) := K1.out.trans' k2
  have B2 : Hid (w2.heap[w.heap.size]? = some (.cells #[.int .i64 x.a, .int .i64 x.b, .int .i64 x.c, .int .i64 x.d, .int .i64 x.e] 23 (0, 0))) := (k2.block _ (lt_of_heap B1.out) (fun e => e)).trans B1.out
  clear k2 c0 c1 c2 c3 c4 yl B1 K1
  by_cases hz : chk x = 0
  · rw [hz]
    by_cases htu : tu < 0
    · have q1 : decide (tu < 0) = true := decide_eq_true htu
      go_wp2_with fail
      go_ret
      exact ⟨rfl, K2.out⟩
    by_cases hdr : dr < 0
    · have q1 : decide (tu < 0) = false := decide_eq_false htu
      have q2 : decide (dr < 0) = true := decide_eq_true hdr
      go_wp2_with fail
      go_ret
      exact ⟨rfl, K2.out⟩
    have q1 : decide (tu < 0) = false := decide_eq_false htu
    have q2 : decide (dr < 0) = false := decide_eq_false hdr
    go_wp2_with fail
    refine Calls.mono (HU.out _) ?_
    rintro r w3 ⟨rfl, k3⟩
    have K3 : Hid (Kept w w3) := K2.out.trans' k3
    have B3 : Hid (w3.heap[w.heap.size]? = some (.cells #[.int .i64 x.a, .int .i64 x.b, .int .i64 x.c, .int .i64 x.d, .int .i64 x.e] 23 (0, 0))) := (k3.block _ (lt_of_heap B2.out) (fun e => e)).trans B2.out
    clear k3 B2 K2
    obtain ⟨e1, he1⟩ : ∃ e1, (bits BinOp.and IntKind.i64 dr 1 == 1) = e1 := ⟨_, rfl⟩
    obtain ⟨e2, he2⟩ : ∃ e2, (bits BinOp.and IntKind.i64 dr 2 == 2) = e2 := ⟨_, rfl⟩
    have HE1 : Hid ((bits BinOp.and IntKind.i64 dr 1 == 1) = e1) := he1
    have HE2 : Hid ((bits BinOp.and IntKind.i64 dr 2 == 2) = e2) := he2
    have HZ : Hid (chk x = 0) := hz
    have HTU : Hid (0 ≤ tu) := by show _ ≤ _; omega
    clear he1 he2 hz htu hdr q1 q2 HA HC
    go_upto_region 6 with fail
    have K4 : Hid (Kept w (w3.alloc (.cells #[.int .i64 4096, .int .i64 8, .int .i64 1048576, .int .i64 0, .int .i64 100] 23))) := K3.out.alloc _
    have B4 : Hid ((w3.alloc (.cells #[.int .i64 4096, .int .i64 8, .int .i64 1048576, .int .i64 0, .int .i64 100] 23)).heap[w.heap.size]? = some (.cells #[.int .i64 x.a, .int .i64 x.b, .int .i64 x.c, .int .i64 x.d, .int .i64 x.e] 23 (0, 0))) := (heap_old _ _ (lt_of_heap B3.out)).trans B3.out
    have G4 : Hid ((w3.alloc (.cells #[.int .i64 4096, .int .i64 8, .int .i64 1048576, .int .i64 0, .int .i64 100] 23)).heap[w3.heap.size]? = some (.cells #[.int .i64 4096, .int .i64 8, .int .i64 1048576, .int .i64 0, .int .i64 100] 23 (0, 0))) := heap_new _ _
    have GL : Hid (w.heap.size < w3.heap.size) := lt_of_heap B3.out
    generalize w3.alloc (.cells #[.int .i64 4096, .int .i64 8, .int .i64 1048576, .int .i64 0, .int .i64 100] 23) = W4 at K4 B4 G4 ⊢
    generalize w3.heap.size = g7 at G4 GL ⊢
    clear B3 K3
    go_upto_if 37 with fail
    go_cut [] (fun wx => Kept w wx ∧ wx.heap[w.heap.size]? = some (.cells #[.int .i64 (if e1 = true then 4096 else x.a), .int .i64 x.b, .int .i64 x.c, .int .i64 x.d, .int .i64 x.e] 23 (0, 0)) ∧ wx.heap[g7]? = some (.cells #[.int .i64 4096, .int .i64 8, .int .i64 1048576, .int .i64 0, .int .i64 100] 23 (0, 0)))
    case first =>
      have hb1 := HE1.out
      cases e1
      · go_wp2_with fail
        go_meet
        exact ⟨K4.out, B4.out, G4.out⟩
      · have c0 : W4.cell? ⟨w.heap.size, 0, none⟩ = some (.int .i64 x.a) := cell_of B4.out 0
        have f0 := frozen_of B4.out 0
        have y0 : W4.cell? ⟨g7, 0, none⟩ = some (.int .i64 4096) := cell_of G4.out 0
        have yl := lt_of_heap B4.out
        have yg := lt_of_heap G4.out
        have S4 : Hid (Same (fun i => i = w.heap.size) W4 (W4.setCell ⟨w.heap.size, 0, none⟩ (.int .i64 4096))) := Same.setCell (Same.refl (fun i => i = w.heap.size) W4) _ (.inr rfl) _
        go_wp2_with fail
        go_meet
        exact ⟨K4.out.setCell _ (.inl (Nat.le_refl _)) _, setCell_at B4.out 0 _, (S4.out.block _ (lt_of_heap G4.out) (by have := GL.out; omega)).trans G4.out⟩
    case rest =>
      have HW5 : Hid (Kept w wc ∧ wc.heap[w.heap.size]? = some (.cells #[.int .i64 (if e1 = true then 4096 else x.a), .int .i64 x.b, .int .i64 x.c, .int .i64 x.d, .int .i64 x.e] 23 (0, 0)) ∧ wc.heap[g7]? = some (.cells #[.int .i64 4096, .int .i64 8, .int .i64 1048576, .int .i64 0, .int .i64 100] 23 (0, 0))) := hcut
      clear hcut K4 B4 G4
      rename World => W5
      obtain ⟨xa, exa⟩ : ∃ xa, (if e1 = true then 4096 else x.a) = xa := ⟨_, rfl⟩
      have HXA : Hid ((if e1 = true then 4096 else x.a) = xa) := exa
      rw [exa] at HW5
      clear exa
      go_upto_if 43 with fail
      go_cut [] (fun wx => Kept w wx ∧ wx.heap[w.heap.size]? = some (.cells #[.int .i64 xa, .int .i64 x.b, .int .i64 x.c, .int .i64 (if e2 = true then 0 else x.d), .int .i64 x.e] 23 (0, 0)))
      case first =>
        have hb2 := HE2.out
        cases e2
        · go_wp2_with fail
          go_meet
          exact ⟨HW5.out.1, HW5.out.2.1⟩
        · have c0 : W5.cell? ⟨w.heap.size, 3, none⟩ = some (.int .i64 x.d) := cell_of HW5.out.2.1 3
          have f0 := frozen_of HW5.out.2.1 3
          have y0 : W5.cell? ⟨g7, 3, none⟩ = some (.int .i64 0) := cell_of HW5.out.2.2 3
          have yl := lt_of_heap HW5.out.2.1
          have yg := lt_of_heap HW5.out.2.2
          go_wp2_with fail
          go_meet
          exact ⟨HW5.out.1.setCell _ (.inl (Nat.le_refl _)) _, setCell_at HW5.out.2.1 3 _⟩
      case rest =>
        obtain ⟨xd, exd⟩ : ∃ xd, (if e2 = true then 0 else x.d) = xd := ⟨_, rfl⟩
        rw [exd] at hcut
        have HO : Hid (Ox e1 e2 ⟨xa, x.b, x.c, xd, x.e⟩) := by
          refine ⟨?_, fun h => by rw [← HXA.out, if_pos h], fun h => by show xd = 0; rw [← exd, if_pos h]⟩
          obtain ⟨h1, h2, h3, h4, h5⟩ := chk_ok HZ.out
          have ha : 1200 ≤ xa ∧ xa ≤ 16777216 := by rw [← HXA.out]; split <;> omega
          have hd : 0 ≤ xd ∧ xd ≤ 1099511627776 := by rw [← exd]; split <;> omega
          unfold chk
          dsimp only
          rw [if_neg (by omega), if_neg (by omega), if_neg (by omega), if_neg (by omega), if_neg (by omega)]
        have HK6 : Hid (Kept w wc) := hcut.1
        have HB6 : Hid (wc.heap[w.heap.size]? = some (.cells #[.int .i64 xa, .int .i64 x.b, .int .i64 x.c, .int .i64 xd, .int .i64 x.e] 23 (0, 0))) := hcut.2
        clear hcut HW5 exd HXA
        rename World => W6
        have c0 : W6.cell? ⟨w.heap.size, 0, none⟩ = some (.int .i64 xa) := cell_of HB6.out 0
        have c1 : W6.cell? ⟨w.heap.size, 1, none⟩ = some (.int .i64 x.b) := cell_of HB6.out 1
        have c2 : W6.cell? ⟨w.heap.size, 2, none⟩ = some (.int .i64 x.c) := cell_of HB6.out 2
        have c3 : W6.cell? ⟨w.heap.size, 3, none⟩ = some (.int .i64 xd) := cell_of HB6.out 3
        have c4 : W6.cell? ⟨w.heap.size, 4, none⟩ = some (.int .i64 x.e) := cell_of HB6.out 4
        have yl := lt_of_heap HB6.out
        go_wp2_with fail
        refine Calls.mono (HT.out _ _ _ _ _ (nn_ok HO.out.ok) _) ?_
        rintro r w7 ⟨rfl, k7⟩
        have K7 : Hid (Kept w w7) := HK6.out.trans' k7
        have B7 : Hid (w7.heap[w.heap.size]? = some (.cells #[.int .i64 xa, .int .i64 x.b, .int .i64 x.c, .int .i64 xd, .int .i64 x.e] 23 (0, 0))) := (k7.block _ (lt_of_heap HB6.out) (fun e => e)).trans HB6.out
        clear k7 HK6 HB6 c0 c1 c2 c3 c4 yl HT GL
        obtain ⟨X, eX⟩ : ∃ X : Cg, (⟨xa, x.b, x.c, xd, x.e⟩ : Cg) = X := ⟨_, rfl⟩
        have HX : Hid ((⟨xa, x.b, x.c, xd, x.e⟩ : Cg) = X) := eX
        rw [eX] at HO ⊢
        clear eX
        have HPC : Hid (pcs (pr X 5) = [pc X 0, pc X 1, pc X 2, pc X 3, pc X 4]) := pcs_pr (nn_ok HO.out.ok)
        have HLL : Hid ((pr X 5).length ≤ 200) := pr_len HO.out.ok 5 (by omega)
        generalize pr X 5 = L at HPC HLL ⊢
        have B70 := lt_of_heap B7.out
        have HB70 : Hid (w.heap.size + 1 ≤ w7.heap.size) := B70
        clear B70
        go_wp2_with fail
        go_loopw [9, 10, 11] (fun v a i wr => ∃ (p q : Nat) (ps : List (List UInt8)), a = .int .i64 (p : Int) ∧ i = .int .i64 (q : Int) ∧ OwnT (w.heap.size + 1) wr v ps ∧ Spp L p q ps ∧ Same (fun i => w.heap.size + 1 ≤ i) w7 wr) (fun _ _ i _ => L.length + 1 - (intOf i).toNat)
        case atStart => exact ⟨0, 0, [], rfl, rfl, OwnT.nil _ _, ⟨Nat.le_refl _, by omega, fun _ => ⟨fun j h1 h2 => by omega, by simp⟩, fun h => by omega⟩, Same.refl _ _⟩
        case round =>
          obtain ⟨p, q, ps, rfl, rfl, h1, h2, h3⟩ := hrel
          rename World => W
          have HR : Hid (OwnT (w.heap.size + 1) W _ ps ∧ Spp L p q ps ∧ Same (fun i => w.heap.size + 1 ≤ i) w7 W) := ⟨h1, h2, h3⟩
          clear h1 h2 h3
          by_cases hq : q ≤ L.length
          · have d1 : decide ((q : Int) ≤ (L.length : Int)) = true := decide_eq_true (by omega)
            have d1n : decide (q ≤ L.length) = true := decide_eq_true hq
            have hll := HLL.out
            have hw1 : (q : Int) + 1 ≤ 9223372036854775807 := by omega
            by_cases hbd : q < L.length ∧ L[q]? ≠ some 32
            · obtain ⟨b, hb⟩ : ∃ b, L[q]? = some b := ⟨_, List.getElem?_eq_getElem hbd.1⟩
              have hb32 : ¬ b = 32 := fun e => hbd.2 (by rw [hb, e])
              have d3 : ((q : Int) == (L.length : Int)) = false := beq_eq_false_iff_ne.2 (by have := hbd.1; omega)
              have d3n : (q == L.length) = false := beq_eq_false_iff_ne.2 (by have := hbd.1; omega)
              have hix : ∀ w, (Instr.index 9 (tx L) (.int .i64 (q : Int))).run Tryd.prog w = _ := idx_tx hb
              have q32 : ((b.toNat : Int) == 32) = false := by
                have := (eq_b b 32).trans (beq_eq_false_iff_ne.2 hb32)
                rw [show (32 : Int) = ((32 : UInt8).toNat : Int) from rfl, this]
              have ST2 : Hid (Spp L p (q + 1) ps) := HR.out.2.1.skip hb hb32
              clear hb hb32 hbd hll
              go_wp2_with fail
              go_roundw
              case rel => exact ⟨p, q + 1, ps, rfl, by simp, HR.out.1, ST2.out, HR.out.2.2⟩
              case measure => simp only [intOf]; omega
            · have hor : q = L.length ∨ L[q]? = some 32 := by
                by_cases e : q = L.length
                · exact .inl e
                · exact .inr (Classical.not_not.1 fun e2 => hbd ⟨by omega, e2⟩)
              have ST2 : Hid (Spp L (q + 1) (q + 1) (ps ++ [(L.drop p).take (q - p)])) := HR.out.2.1.piece hq hor
              have hpq : p ≤ q := HR.out.2.1.1
              have hpi : (p : Int) ≤ (q : Int) := by omega
              have hmd : ∀ w, _ := midc_tx L p q hpq hq
              have HPS : Hid (ps.length ≤ 1000) := by
                have := spp_len HR.out.2.1
                rw [HPC.out] at this
                simp at this
                show _ ≤ _
                omega
              have hlt : (((q : Int) == (L.length : Int)) = true) ∨ (((q : Int) == (L.length : Int)) = false ∧ ∀ w, (Instr.index 9 (tx L) (.int .i64 (q : Int))).run Tryd.prog w = .ok (.int .u8 32) w) := by
                rcases hor with e | e
                · exact .inl (by rw [e]; simp)
                · by_cases e2 : q = L.length
                  · exact .inl (by rw [e2]; simp)
                  · exact .inr ⟨beq_eq_false_iff_ne.2 (by omega), idx_tx e⟩
              clear hbd hor
              generalize (L.drop p).take (q - p) = pcc at *
              rcases hlt with d3 | ⟨d3, hix⟩
              · go_wp2_with (at_builtin; apply Hid.out)
                refine wpList_app rfl (.tmp 65) (.tmp 70) 38 38 rfl _ (.slice (some ⟨W.heap.size, 0, none⟩) 1 1) rfl rfl _ (app_tx1 pcc HR.out.1 HPS.out (Nat.le_trans HB70.out HR.out.2.2.size)) ?_
                rintro v8 w8 ⟨o8, s8⟩
                have H8 : Hid (OwnT (w.heap.size + 1) w8 v8 (ps ++ [pcc]) ∧ Same (fun i => w.heap.size + 1 ≤ i) w7 w8) := ⟨o8, HR.out.2.2.trans' s8⟩
                clear o8 s8
                go_wp2_with fail
                go_roundw
                case rel => exact ⟨q + 1, q + 1, _, by simp, by simp, H8.out.1, ST2.out, H8.out.2⟩
                case measure => simp only [intOf]; omega
              · go_wp2_with (at_builtin; apply Hid.out)
                refine wpList_app rfl (.tmp 65) (.tmp 70) 38 38 rfl _ (.slice (some ⟨W.heap.size, 0, none⟩) 1 1) rfl rfl _ (app_tx1 pcc HR.out.1 HPS.out (Nat.le_trans HB70.out HR.out.2.2.size)) ?_
                rintro v8 w8 ⟨o8, s8⟩
                have H8 : Hid (OwnT (w.heap.size + 1) w8 v8 (ps ++ [pcc]) ∧ Same (fun i => w.heap.size + 1 ≤ i) w7 w8) := ⟨o8, HR.out.2.2.trans' s8⟩
                clear o8 s8
                go_wp2_with fail
                go_roundw
                case rel => exact ⟨q + 1, q + 1, _, by simp, by simp, H8.out.1, ST2.out, H8.out.2⟩
                case measure => simp only [intOf]; omega
          · have hq1 : q = L.length + 1 := by have := HR.out.2.1.2.1; omega
            have HPS : Hid (ps = [pc X 0, pc X 1, pc X 2, pc X 3, pc X 4]) := by
              show _ = _
              rw [← HPC.out]
              exact (HR.out.2.1.2.2.2 hq1).symm
            have d1 : decide ((q : Int) ≤ (L.length : Int)) = false := decide_eq_false (by omega)
            have d1n : decide (q ≤ L.length) = false := decide_eq_false hq
            have hrow := HR.out.1
            rw [HPS.out] at hrow
            obtain ⟨g, cap, rfl, hg, hcell⟩ := hrow.at (by simp)
            have y0 : W.cell? ⟨g, 0, none⟩ = some (tx (pc X 0)) := hcell 0 _ rfl
            have y1 : W.cell? ⟨g, 1, none⟩ = some (tx (pc X 1)) := hcell 1 _ rfl
            have y2 : W.cell? ⟨g, 2, none⟩ = some (tx (pc X 2)) := hcell 2 _ rfl
            have y3 : W.cell? ⟨g, 3, none⟩ = some (tx (pc X 3)) := hcell 3 _ rfl
            have y4 : W.cell? ⟨g, 4, none⟩ = some (tx (pc X 4)) := hcell 4 _ rfl
            have HY : Hid (∀ k, k < 5 → W.cell? ⟨g, k, none⟩ = some (tx (pc X k))) := fun k hk => by
              have : k = 0 ∨ k = 1 ∨ k = 2 ∨ k = 3 ∨ k = 4 := by omega
              rcases this with rfl | rfl | rfl | rfl | rfl <;> assumption
            have KW : Hid (Kept w W) := Same.trans K7.out HR.out.2.2 (fun i hi e => by omega)
            have BW : Hid (W.heap[w.heap.size]? = some (.cells #[.int .i64 xa, .int .i64 x.b, .int .i64 x.c, .int .i64 xd, .int .i64 x.e] 23 (0, 0))) := (HR.out.2.2.block _ (lt_of_heap B7.out) (by omega)).trans B7.out
            have HG : Hid (g < W.heap.size) := hg
            obtain ⟨r, hr⟩ : ∃ r : Nat, tu % 5 = (r : Int) := ⟨(tu % 5).toNat, by omega⟩
            have HR5 : Hid (r < 5) := by show _ < _; omega
            have HM : Hid (tu % 5 = (r : Int)) := hr
            have htu := HTU.out
            clear y0 y1 y2 y3 y4 hrow hcell hg hr HR HPS K7 B7
            go_wp2_with fail
            clear d1 d1n hq hq1 HLL HPC HB70
            go_loopw [12, 13] (fun t i wr => ∃ j : Nat, i = .int .i64 (j : Int) ∧ j ≤ 5 ∧ t = tx (jt e1 e2 X r j) ∧ wr = W) (fun _ i _ => 5 - (intOf i).toNat)
            case atStart => exact ⟨0, rfl, by omega, rfl, rfl⟩
            case round =>
              obtain ⟨j, rfl, hj, rfl, hwr⟩ := hrel
              subst hwr
              rename World => W
              by_cases hj5 : j < 5
              · have d1 : decide ((j : Int) < 5) = true := decide_eq_true (by omega)
                have hj5i : (j : Int) < 5 := by omega
                have hr := HM.out
                have hr5 := HR5.out
                obtain ⟨k, hk⟩ : ∃ k, (j + r) % 5 = k := ⟨_, rfl⟩
                have hjr : ((j : Int) + (r : Int)) % 5 = (k : Int) := by omega
                have hk5 : k < 5 := by omega
                have hk5i : (k : Int) < 5 := by omega
                have hcell := HY.out k hk5
                have hg := HG.out
                have HJ : Hid (jt e1 e2 X r (j + 1) = if lo e1 e2 X k = true then jt e1 e2 X r j else jt e1 e2 X r j ++ (if jt e1 e2 X r j = [] then [] else [32]) ++ pc X k) := by
                  show _ = _
                  rw [← hk]
                  rfl
                have HLN : Hid ((jt e1 e2 X r j).length ≤ 200) := by have := jt_len (e1 := e1) (e2 := e2) HO.out.ok r j; show _ ≤ _; omega
                have HPN : Hid ((pc X k).length ≤ 240) := by
                  obtain ⟨h0, h1⟩ := fl_bd HO.out.ok k
                  have h2 := itoa_len h0 h1
                  have h3 : (nmC k).length ≤ 6 := by
                    unfold nmC
                    split <;> decide
                  show _ ≤ _
                  simp only [pc, List.length_append, List.length_cons, List.length_nil]
                  omega
                have HLO : Hid (lo e1 e2 X k = ((e1 && (pc X k == bT)) || (e2 && (pc X k == eT)))) := rfl
                have HJ1 : Hid (jt e1 e2 X r (j + 1) = jt e1 e2 X r (j + 1)) := rfl
                have HJ2 : Hid (j + 1 ≤ 5) := hj5
                clear hk
                obtain ⟨T2, eT2⟩ : ∃ T2, jt e1 e2 X r (j + 1) = T2 := ⟨_, rfl⟩
                have HT2 : Hid (jt e1 e2 X r (j + 1) = T2) := eT2
                rw [eT2] at HJ
                clear eT2 HJ1
                generalize jt e1 e2 X r j = T at *
                generalize lo e1 e2 X k = LO at *
                have hb1 := HE1.out
                have hb2 := HE2.out
                have hpb : ∀ b : Bool, (pc X k == bT) = b → (pc X k == [98, 117, 100, 103, 101, 116, 61, 52, 48, 57, 54]) = b := fun b h => h
                have hpe : ∀ b : Bool, (pc X k == eT) = b → (pc X k == [101, 112, 115, 61, 48]) = b := fun b h => h
                obtain ⟨b1, hB1⟩ : ∃ b, (pc X k == bT) = b := ⟨_, rfl⟩
                obtain ⟨b2, hB2⟩ : ∃ b, (pc X k == eT) = b := ⟨_, rfl⟩
                have hB1' := hpb _ hB1
                have hB2' := hpe _ hB2
                rw [hB1, hB2] at HLO
                clear hpb hpe hB1 hB2
                generalize pc X k = P at *
                have hc1 : ¬ 9223372036854775807 < P.length := by have := HPN.out; omega
                have hc2 : ¬ 9223372036854775807 < T.length + 1 := by have := HLN.out; omega
                have hc3 : ¬ 9223372036854775807 < T.length + 1 + P.length := by have := HLN.out; have := HPN.out; omega
                cases e1 <;> cases e2 <;> cases b1 <;> cases b2
                · by_cases hT : T = []
                  · have RT : Hid (P = T2) := by
                      show _ = _
                      rw [HJ.out, HLO.out, hT]
                      rfl
                    subst hT
                    go_wp2_with fail
                    go_roundw
                    case rel =>
                      refine ⟨j + 1, by simp, HJ2.out, ?_⟩
                      rw [HT2.out, show (⟨#[]⟩ : ByteArray) = ⟨([] : List UInt8).toArray⟩ from rfl, add_bytes, List.nil_append, RT.out]
                      try trivial
                    case measure => simp only [intOf]; omega
                  · have RT : Hid (T ++ [32] ++ P = T2) := by
                      show _ = _
                      rw [HJ.out, HLO.out, if_neg hT]
                      rfl
                    have hTE : T.isEmpty = false := by
                      cases T with
                      | nil => exact (hT rfl).elim
                      | cons a l => rfl
                    clear hT
                    go_wp2_with fail
                    go_roundw
                    case rel =>
                      refine ⟨j + 1, by simp, HJ2.out, ?_⟩
                      rw [HT2.out, show (⟨#[32]⟩ : ByteArray) = ⟨[32].toArray⟩ from rfl, add_bytes, add_bytes, RT.out]
                      try trivial
                    case measure => simp only [intOf]; omega
                · by_cases hT : T = []
                  · have RT : Hid (P = T2) := by
                      show _ = _
                      rw [HJ.out, HLO.out, hT]
                      rfl
                    subst hT
                    go_wp2_with fail
                    go_roundw
                    case rel =>
                      refine ⟨j + 1, by simp, HJ2.out, ?_⟩
                      rw [HT2.out, show (⟨#[]⟩ : ByteArray) = ⟨([] : List UInt8).toArray⟩ from rfl, add_bytes, List.nil_append, RT.out]
                      try trivial
                    case measure => simp only [intOf]; omega
                  · have RT : Hid (T ++ [32] ++ P = T2) := by
                      show _ = _
                      rw [HJ.out, HLO.out, if_neg hT]
                      rfl
                    have hTE : T.isEmpty = false := by
                      cases T with
                      | nil => exact (hT rfl).elim
                      | cons a l => rfl
                    clear hT
                    go_wp2_with fail
                    go_roundw
                    case rel =>
                      refine ⟨j + 1, by simp, HJ2.out, ?_⟩
                      rw [HT2.out, show (⟨#[32]⟩ : ByteArray) = ⟨[32].toArray⟩ from rfl, add_bytes, add_bytes, RT.out]
                      try trivial
                    case measure => simp only [intOf]; omega
                · by_cases hT : T = []
                  · have RT : Hid (P = T2) := by
                      show _ = _
                      rw [HJ.out, HLO.out, hT]
                      rfl
                    subst hT
                    go_wp2_with fail
                    go_roundw
                    case rel =>
                      refine ⟨j + 1, by simp, HJ2.out, ?_⟩
                      rw [HT2.out, show (⟨#[]⟩ : ByteArray) = ⟨([] : List UInt8).toArray⟩ from rfl, add_bytes, List.nil_append, RT.out]
                      try trivial
                    case measure => simp only [intOf]; omega
                  · have RT : Hid (T ++ [32] ++ P = T2) := by
                      show _ = _
                      rw [HJ.out, HLO.out, if_neg hT]
                      rfl
                    have hTE : T.isEmpty = false := by
                      cases T with
                      | nil => exact (hT rfl).elim
                      | cons a l => rfl
                    clear hT
                    go_wp2_with fail
                    go_roundw
                    case rel =>
                      refine ⟨j + 1, by simp, HJ2.out, ?_⟩
                      rw [HT2.out, show (⟨#[32]⟩ : ByteArray) = ⟨[32].toArray⟩ from rfl, add_bytes, add_bytes, RT.out]
                      try trivial
                    case measure => simp only [intOf]; omega
                · by_cases hT : T = []
                  · have RT : Hid (P = T2) := by
                      show _ = _
                      rw [HJ.out, HLO.out, hT]
                      rfl
                    subst hT
                    go_wp2_with fail
                    go_roundw
                    case rel =>
                      refine ⟨j + 1, by simp, HJ2.out, ?_⟩
                      rw [HT2.out, show (⟨#[]⟩ : ByteArray) = ⟨([] : List UInt8).toArray⟩ from rfl, add_bytes, List.nil_append, RT.out]
                      try trivial
                    case measure => simp only [intOf]; omega
                  · have RT : Hid (T ++ [32] ++ P = T2) := by
                      show _ = _
                      rw [HJ.out, HLO.out, if_neg hT]
                      rfl
                    have hTE : T.isEmpty = false := by
                      cases T with
                      | nil => exact (hT rfl).elim
                      | cons a l => rfl
                    clear hT
                    go_wp2_with fail
                    go_roundw
                    case rel =>
                      refine ⟨j + 1, by simp, HJ2.out, ?_⟩
                      rw [HT2.out, show (⟨#[32]⟩ : ByteArray) = ⟨[32].toArray⟩ from rfl, add_bytes, add_bytes, RT.out]
                      try trivial
                    case measure => simp only [intOf]; omega
                · by_cases hT : T = []
                  · have RT : Hid (P = T2) := by
                      show _ = _
                      rw [HJ.out, HLO.out, hT]
                      rfl
                    subst hT
                    go_wp2_with fail
                    go_roundw
                    case rel =>
                      refine ⟨j + 1, by simp, HJ2.out, ?_⟩
                      rw [HT2.out, show (⟨#[]⟩ : ByteArray) = ⟨([] : List UInt8).toArray⟩ from rfl, add_bytes, List.nil_append, RT.out]
                      try trivial
                    case measure => simp only [intOf]; omega
                  · have RT : Hid (T ++ [32] ++ P = T2) := by
                      show _ = _
                      rw [HJ.out, HLO.out, if_neg hT]
                      rfl
                    have hTE : T.isEmpty = false := by
                      cases T with
                      | nil => exact (hT rfl).elim
                      | cons a l => rfl
                    clear hT
                    go_wp2_with fail
                    go_roundw
                    case rel =>
                      refine ⟨j + 1, by simp, HJ2.out, ?_⟩
                      rw [HT2.out, show (⟨#[32]⟩ : ByteArray) = ⟨[32].toArray⟩ from rfl, add_bytes, add_bytes, RT.out]
                      try trivial
                    case measure => simp only [intOf]; omega
                · have RT : Hid (T = T2) := by
                    show _ = _
                    rw [HJ.out, HLO.out]
                    rfl
                  clear hc1 hc2 hc3
                  go_wp2_with fail
                  go_roundw
                  case rel =>
                    refine ⟨j + 1, by simp, HJ2.out, ?_, by trivial⟩
                    rw [HT2.out, RT.out]
                  case measure => simp only [intOf]; omega
                · by_cases hT : T = []
                  · have RT : Hid (P = T2) := by
                      show _ = _
                      rw [HJ.out, HLO.out, hT]
                      rfl
                    subst hT
                    go_wp2_with fail
                    go_roundw
                    case rel =>
                      refine ⟨j + 1, by simp, HJ2.out, ?_⟩
                      rw [HT2.out, show (⟨#[]⟩ : ByteArray) = ⟨([] : List UInt8).toArray⟩ from rfl, add_bytes, List.nil_append, RT.out]
                      try trivial
                    case measure => simp only [intOf]; omega
                  · have RT : Hid (T ++ [32] ++ P = T2) := by
                      show _ = _
                      rw [HJ.out, HLO.out, if_neg hT]
                      rfl
                    have hTE : T.isEmpty = false := by
                      cases T with
                      | nil => exact (hT rfl).elim
                      | cons a l => rfl
                    clear hT
                    go_wp2_with fail
                    go_roundw
                    case rel =>
                      refine ⟨j + 1, by simp, HJ2.out, ?_⟩
                      rw [HT2.out, show (⟨#[32]⟩ : ByteArray) = ⟨[32].toArray⟩ from rfl, add_bytes, add_bytes, RT.out]
                      try trivial
                    case measure => simp only [intOf]; omega
                · have RT : Hid (T = T2) := by
                    show _ = _
                    rw [HJ.out, HLO.out]
                    rfl
                  clear hc1 hc2 hc3
                  go_wp2_with fail
                  go_roundw
                  case rel =>
                    refine ⟨j + 1, by simp, HJ2.out, ?_, by trivial⟩
                    rw [HT2.out, RT.out]
                  case measure => simp only [intOf]; omega
                · by_cases hT : T = []
                  · have RT : Hid (P = T2) := by
                      show _ = _
                      rw [HJ.out, HLO.out, hT]
                      rfl
                    subst hT
                    go_wp2_with fail
                    go_roundw
                    case rel =>
                      refine ⟨j + 1, by simp, HJ2.out, ?_⟩
                      rw [HT2.out, show (⟨#[]⟩ : ByteArray) = ⟨([] : List UInt8).toArray⟩ from rfl, add_bytes, List.nil_append, RT.out]
                      try trivial
                    case measure => simp only [intOf]; omega
                  · have RT : Hid (T ++ [32] ++ P = T2) := by
                      show _ = _
                      rw [HJ.out, HLO.out, if_neg hT]
                      rfl
                    have hTE : T.isEmpty = false := by
                      cases T with
                      | nil => exact (hT rfl).elim
                      | cons a l => rfl
                    clear hT
                    go_wp2_with fail
                    go_roundw
                    case rel =>
                      refine ⟨j + 1, by simp, HJ2.out, ?_⟩
                      rw [HT2.out, show (⟨#[32]⟩ : ByteArray) = ⟨[32].toArray⟩ from rfl, add_bytes, add_bytes, RT.out]
                      try trivial
                    case measure => simp only [intOf]; omega
                · by_cases hT : T = []
                  · have RT : Hid (P = T2) := by
                      show _ = _
                      rw [HJ.out, HLO.out, hT]
                      rfl
                    subst hT
                    go_wp2_with fail
                    go_roundw
                    case rel =>
                      refine ⟨j + 1, by simp, HJ2.out, ?_⟩
                      rw [HT2.out, show (⟨#[]⟩ : ByteArray) = ⟨([] : List UInt8).toArray⟩ from rfl, add_bytes, List.nil_append, RT.out]
                      try trivial
                    case measure => simp only [intOf]; omega
                  · have RT : Hid (T ++ [32] ++ P = T2) := by
                      show _ = _
                      rw [HJ.out, HLO.out, if_neg hT]
                      rfl
                    have hTE : T.isEmpty = false := by
                      cases T with
                      | nil => exact (hT rfl).elim
                      | cons a l => rfl
                    clear hT
                    go_wp2_with fail
                    go_roundw
                    case rel =>
                      refine ⟨j + 1, by simp, HJ2.out, ?_⟩
                      rw [HT2.out, show (⟨#[32]⟩ : ByteArray) = ⟨[32].toArray⟩ from rfl, add_bytes, add_bytes, RT.out]
                      try trivial
                    case measure => simp only [intOf]; omega
                · have RT : Hid (T = T2) := by
                    show _ = _
                    rw [HJ.out, HLO.out]
                    rfl
                  clear hc1 hc2 hc3
                  go_wp2_with fail
                  go_roundw
                  case rel =>
                    refine ⟨j + 1, by simp, HJ2.out, ?_, by trivial⟩
                    rw [HT2.out, RT.out]
                  case measure => simp only [intOf]; omega
                · have RT : Hid (T = T2) := by
                    show _ = _
                    rw [HJ.out, HLO.out]
                    rfl
                  clear hc1 hc2 hc3
                  go_wp2_with fail
                  go_roundw
                  case rel =>
                    refine ⟨j + 1, by simp, HJ2.out, ?_, by trivial⟩
                    rw [HT2.out, RT.out]
                  case measure => simp only [intOf]; omega
                · by_cases hT : T = []
                  · have RT : Hid (P = T2) := by
                      show _ = _
                      rw [HJ.out, HLO.out, hT]
                      rfl
                    subst hT
                    go_wp2_with fail
                    go_roundw
                    case rel =>
                      refine ⟨j + 1, by simp, HJ2.out, ?_⟩
                      rw [HT2.out, show (⟨#[]⟩ : ByteArray) = ⟨([] : List UInt8).toArray⟩ from rfl, add_bytes, List.nil_append, RT.out]
                      try trivial
                    case measure => simp only [intOf]; omega
                  · have RT : Hid (T ++ [32] ++ P = T2) := by
                      show _ = _
                      rw [HJ.out, HLO.out, if_neg hT]
                      rfl
                    have hTE : T.isEmpty = false := by
                      cases T with
                      | nil => exact (hT rfl).elim
                      | cons a l => rfl
                    clear hT
                    go_wp2_with fail
                    go_roundw
                    case rel =>
                      refine ⟨j + 1, by simp, HJ2.out, ?_⟩
                      rw [HT2.out, show (⟨#[32]⟩ : ByteArray) = ⟨[32].toArray⟩ from rfl, add_bytes, add_bytes, RT.out]
                      try trivial
                    case measure => simp only [intOf]; omega
                · have RT : Hid (T = T2) := by
                    show _ = _
                    rw [HJ.out, HLO.out]
                    rfl
                  clear hc1 hc2 hc3
                  go_wp2_with fail
                  go_roundw
                  case rel =>
                    refine ⟨j + 1, by simp, HJ2.out, ?_, by trivial⟩
                    rw [HT2.out, RT.out]
                  case measure => simp only [intOf]; omega
                · have RT : Hid (T = T2) := by
                    show _ = _
                    rw [HJ.out, HLO.out]
                    rfl
                  clear hc1 hc2 hc3
                  go_wp2_with fail
                  go_roundw
                  case rel =>
                    refine ⟨j + 1, by simp, HJ2.out, ?_, by trivial⟩
                    rw [HT2.out, RT.out]
                  case measure => simp only [intOf]; omega
                · have RT : Hid (T = T2) := by
                    show _ = _
                    rw [HJ.out, HLO.out]
                    rfl
                  clear hc1 hc2 hc3
                  go_wp2_with fail
                  go_roundw
                  case rel =>
                    refine ⟨j + 1, by simp, HJ2.out, ?_, by trivial⟩
                    rw [HT2.out, RT.out]
                  case measure => simp only [intOf]; omega
              · obtain rfl : j = 5 := by omega
                have HLN : Hid ((jt e1 e2 X r 5).length ≤ 200) := jt_len HO.out.ok r 5
                have HPN : Hid ((pc X 1).length ≤ 240) := by
                  obtain ⟨h0, h1⟩ := fl_bd HO.out.ok 1
                  have h2 := itoa_len h0 h1
                  show _ ≤ _
                  simp only [pc, nmC, List.length_append, List.length_cons, List.length_nil]
                  omega
                have HO1 : Hid (parseC (jt e1 e2 X r 5) = (X, 0)) := order1 HO.out ⟨r, HR5.out⟩
                have HO2 : Hid (parseC (jt e1 e2 X r 5 ++ [32] ++ pc X 1) = (zC, 230)) := order2 HO.out ⟨r, HR5.out⟩
                have HO3 : Hid (parseC (jt e1 e2 X r 5 ++ [32]) = (zC, 230)) := order3 HO.out ⟨r, HR5.out⟩
                have y1 := HY.out 1 (by omega)
                have Y1 : Hid (W.cell? ⟨g, 1, none⟩ = some (tx (pc X 1))) := y1
                clear HM HY y1 HE1 HE2
                generalize jt e1 e2 X r 5 = T at *
                generalize pc X 1 = P at *
                have hc2 : ¬ 9223372036854775807 < T.length + 1 := by have := HLN.out; omega
                have hc3 : ¬ 9223372036854775807 < T.length + 1 + P.length := by have := HLN.out; have := HPN.out; omega
                obtain ⟨a, b, c, d, e⟩ := X
                have HXX := HX.out
                simp only [Cg.mk.injEq] at HXX
                obtain ⟨rfl, rfl, rfl, rfl, rfl⟩ := HXX
                go_wp2_with fail
                refine Calls.mono (HP.out T (by have := HLN.out; omega) _) ?_
                rintro r8 w8 ⟨rfl, k8⟩
                rw [HO1.out]
                simp only [paV]
                have K8 : Hid (Kept w w8) := KW.out.trans' k8
                have B8 : Hid (w8.heap[w.heap.size]? = _) := (k8.block _ (lt_of_heap BW.out) (fun e => e)).trans BW.out
                have Y8 : Hid (w8.cell? ⟨g, 1, none⟩ = some (tx P)) := (k8.cell (p := ⟨g, 1, none⟩) HG.out (fun e => e)).trans Y1.out
                have HG8 : Hid (g < w8.heap.size) := Nat.lt_of_lt_of_le HG.out k8.size
                clear k8 BW Y1 HG KW
                have c0 : w8.cell? ⟨w.heap.size, 0, none⟩ = some (.int .i64 xa) := cell_of B8.out 0
                have c1 : w8.cell? ⟨w.heap.size, 1, none⟩ = some (.int .i64 x.b) := cell_of B8.out 1
                have c2 : w8.cell? ⟨w.heap.size, 2, none⟩ = some (.int .i64 x.c) := cell_of B8.out 2
                have c3 : w8.cell? ⟨w.heap.size, 3, none⟩ = some (.int .i64 xd) := cell_of B8.out 3
                have c4 : w8.cell? ⟨w.heap.size, 4, none⟩ = some (.int .i64 x.e) := cell_of B8.out 4
                have yl := lt_of_heap B8.out
                have y8 := Y8.out
                have hg8 := HG8.out
                go_wp2_with fail
                rw [show (⟨#[32]⟩ : ByteArray) = ⟨[32].toArray⟩ from rfl, add_bytes, add_bytes]
                have K9 : Hid (Kept w (w8.alloc (.cells #[.int .i64 xa, .int .i64 x.b, .int .i64 x.c, .int .i64 xd, .int .i64 x.e] 23))) := K8.out.alloc _
                refine Calls.mono (HP.out (T ++ [32] ++ P) (by have := HLN.out; have := HPN.out; simp; omega) _) ?_
                rintro r9 w9 ⟨rfl, k9⟩
                rw [HO2.out]
                simp only [paV]
                have K10 : Hid (Kept w w9) := K9.out.trans' k9
                clear k9 K9 c0 c1 c2 c3 c4 yl y8 hg8 B8 Y8 HG8 K8
                go_wp2_with fail
                try rw [show (⟨#[32]⟩ : ByteArray) = ⟨[32].toArray⟩ from rfl]
                rw [add_bytes]
                refine Calls.mono (HP.out (T ++ [32]) (by have := HLN.out; simp; omega) _) ?_
                rintro r11 w11 ⟨rfl, k11⟩
                rw [HO3.out]
                simp only [paV]
                have K11 : Hid (Kept w w11) := (K10.out.alloc _).trans' k11
                clear k11
                go_wp2_with fail
                go_ret
                exact ⟨rfl, K11.out.alloc _⟩
  · have hq : (chk x != 0) = true := by simpa using hz
    generalize chk x = Z at *
    go_wp2_with fail
    go_ret
    exact ⟨rfl, K2.out⟩
end Go.Proofs.YtolooejcgdknnaaDoor
