/- What is proved: the document's machine: begin; no condition. -/
import Derived.Test.YtbjmdpfoeeadeaaMDo
namespace Go.Proofs.Ytbjmdpfoeeadeaa.Ch.Mc
open Go.RowKit

/-- One run more behind a row of runs. -/
theorem app_run {w : World} {g : Nat} {v : Value} {L : List Rt} {r : Rn} (hown : w.ownsRow 0 113 10 v L.length (rnc L)) (hg : w.heap[g]? = some (.cells #[.int .i64 r.t.f0, .int .i64 r.t.f1, .int .i64 r.t.f2, .int .i64 r.t.f3, .int .i64 r.t.f4, .int .i64 r.t.f5, .int .i64 r.t.f6, .slice none 0 0, .int .i64 r.st, .slice none 0 0] 113 (0, 0))) (hb : L.length ≤ 4096) (hbase : 0 ≤ w.heap.size) (ty : TypeId) :
    ∃ v' w', (Builtin.append_ #[106, 106] ty #[v, .slice (some ⟨g, 0, none⟩) 1 1]).run Try.prog w = .ok v' w' ∧ w'.ownsRow 0 113 10 v' (L.length + 1) (rnc (L ++ [(r, .slice none 0 0, .slice none 0 0)])) ∧ Same (fun k => v.ownBlock = some k) w w' ∧ ∀ k, v'.ownBlock = some k → v.ownBlock = some k ∨ w.heap.size ≤ k := by
  obtain ⟨v', w', hr, r1, r2, r3, -⟩ := app_wide (P := Try.prog) (t := 106) (ty := ty) (c := 1) (m := 1) (a := ⟨g, 0, none⟩) (news := rnc [(r, .slice none 0 0, .slice none 0 0)]) Try.underlying106 Try.infoRun rfl (by decide) hown (length_rnc _) (fun j u hu => by
    rw [add_at, Nat.zero_add, cell_of hg]
    simpa [rnc, rnc1] using hu) (fun u hu => by
      simp only [rnc, rnc1, List.flatMap_cons, List.flatMap_nil, List.append_nil, List.mem_cons, List.not_mem_nil, or_false] at hu
      rcases hu with rfl | rfl | rfl | rfl | rfl | rfl | rfl | rfl | rfl | rfl <;> rfl) (by unfold maxLen; omega) (by omega) hbase
  rw [← rnc_append] at r1
  exact ⟨v', w', hr, r1, r2, r3⟩
set_option maxRecDepth 100000 in
set_option maxHeartbeats 3200000 in
theorem rdo_1 {tg : Nat → Ug} {w : World} {rb n : Nat} {fl : Int} {R : Rr} {av ev : Value} {L : List Rt} (h : Rm tg w rb n fl R av ev L) (hs : Sml R) (hc : 0 ≤ R.clock ∧ R.clock ≤ 1099511627776) (se gp : Int) (k v : ByteArray) (hk : k.size ≤ maxLen) (hv : v.size ≤ maxLen) (h0 : rCode n R ⟨1, se, gp, k, v⟩ = 0) (hgp : 0 ≤ gp ∧ gp ≤ 1000) (ha : rAct R.all se = none) (hL : R.all.length < 4096) : RoP tg w rb n fl ⟨1, se, gp, k, v⟩ (rBeg (rTick R (R.clock + 1 + gp)) se R.clock) an0 0 := by
  have K0 : Hid (Kept w (w.alloc (stO ⟨1, se, gp, k, v⟩))) := (Same.refl _ w).alloc _
  have G0 : Hid _ := heap_new w (stO ⟨1, se, gp, k, v⟩)
  have Q0 : Hid (Rq tg w (w.alloc (stO ⟨1, se, gp, k, v⟩)) rb n fl R av ev L) := (Rq.start h).on K0.out
  have HRF : Hid (Calls Try.prog 61 #[.pointer (some ⟨rb, 0, none⟩), stA ⟨1, se, gp, k, v⟩] (w.alloc (stO ⟨1, se, gp, k, v⟩)) fun e w' => e = .returned (.int .i64 0) ∧ Kept (w.alloc (stO ⟨1, se, gp, k, v⟩)) w') := by
    obtain ⟨a, cap, ea, hrd⟩ := Rq.rd Q0.out
    have := rrefuse15 hrd hs ⟨1, se, gp, k, v⟩ hk hv
    unfold RfP at this
    rw [h0] at this
    exact this
  obtain ⟨c, ec⟩ : ∃ c, c = R.clock + 1 + gp := ⟨_, rfl⟩
  have S1 : Hid (Sml (rTick R c)) := ⟨hs.n, hs.e, hs.o⟩
  have wr1 : IntKind.i64.wrap (1 + gp) = 1 + gp := by rw [IntKind.wrap_i64] <;> omega
  have wr2 : IntKind.i64.wrap (R.clock + (1 + gp)) = c := by rw [IntKind.wrap_i64] <;> omega
  have wb1 : -9223372036854775808 ≤ 1 + gp ∧ 1 + gp ≤ 9223372036854775807 := by omega
  have wb2 : -9223372036854775808 ≤ R.clock + (1 + gp) ∧ R.clock + (1 + gp) ≤ 9223372036854775807 := by omega
  have EQC : Hid (R.clock + (1 + gp) = c) := (by omega : R.clock + (1 + gp) = c)
  rw [← ec]
  unfold RoP
  have HA : Hid (rAct R.all se = none) := ha
  have HLL : Hid (L.map (·.1) = R.all) := h.map
  clear ha
  clear h hk hv h0 ec
  unfold stA
  simp only
  go_enter Try.func44, Try.ntmps44
  go_upto_region 1 with fail
  generalize w.alloc (stO ⟨1, se, gp, k, v⟩) = W at *
  generalize w.heap.size = g at G0 ⊢
  obtain ⟨c0, c1, c2, c3, c4⟩ := st_cells G0.out
  have hg := lt_of_heap G0.out
  simp only at c0 c1 c2 c3 c4
  go_wp2_with fail
  refine Calls.mono HRF.out ?_
  rintro r2 w2 ⟨rfl, k2⟩
  have Q1 : Hid (Rq tg w w2 rb n fl R av ev L) := Rq.on Q0.out k2
  have G2 : Hid (w2.heap[g]? = some (stO ⟨1, se, gp, k, v⟩)) := (k2.block g hg (fun e => e)).trans G0.out
  clear c0 c1 c2 c3 c4 hg k2 Q0 G0 HRF K0
  obtain ⟨c0, c1, c2, c3, c4⟩ := st_cells G2.out
  have hg := lt_of_heap G2.out
  simp only at c0 c1 c2 c3 c4
  obtain ⟨hrl, ⟨-, -, m2, m3, -⟩, fz⟩ := Rq.cells Q1.out
  have fz2 := fz 2
  clear fz
  go_upto_region 5 with fail
  go_region
  have hgr : g ≠ rb := fun e => by
    obtain ⟨tg1, h1, -⟩ := Rq.ex Q1.out
    subst e
    exact types_ne G2.out h1.obj (by decide)
  have Q2 : Hid (Rq tg w ((w2.setCell ⟨rb, 2, none⟩ (.int .i64 c)).drew) rb n fl (rTick R c) av ev L) := Rq.on (Rq.clock Q1.out c) (Same.refl _ _).drew
  have G3 : Hid ((w2.setCell ⟨rb, 2, none⟩ (.int .i64 c)).drew.heap[g]? = some (stO ⟨1, se, gp, k, v⟩)) := (heap_set (w := w2) (p := ⟨rb, 2, none⟩) (u := .int .i64 c) hgr).trans G2.out
  generalize (w2.setCell ⟨rb, 2, none⟩ (.int .i64 c)).drew = W3 at *
  clear c0 c1 c2 c3 c4 hg m2 m3 fz2 hrl G2 Q1
  obtain ⟨c0, c1, c2, c3, c4⟩ := st_cells G3.out
  have hg := lt_of_heap G3.out
  simp only at c0 c1 c2 c3 c4
  have HAC : Hid (Calls Try.prog 62 #[.pointer (some ⟨rb, 0, none⟩), .int .i64 se] W3 fun e w' => e = .returned (.int .i64 (-1)) ∧ w' = W3) := by
    obtain ⟨a, cap, ea, hrd⟩ := Rq.rd Q2.out
    have h9 := ractive15 hrd S1.out.n se
    rw [show rAct (rTick R c).all se = none from HA.out] at h9
    exact h9
  go_wp2_with fail
  refine Calls.mono HAC.out ?_
  rintro r4 w4 ⟨rfl, e4⟩
  subst e4
  clear HAC
  obtain ⟨a, cap, ea, hrd⟩ := Rq.rd Q2.out
  have EA : Hid (av = .slice a R.all.length cap) := ea
  have HRN : Hid _ := hrd.run
  obtain ⟨hrl, ⟨-, -, m2, m3, -⟩, -⟩ := Rq.cells Q2.out
  rw [ea] at m3
  simp only [rTick] at m2 m3
  obtain ⟨ll, ell⟩ : ∃ ll, ll = R.all.length := ⟨_, rfl⟩
  have ELL : Hid (ll = R.all.length) := ell
  rw [← ell] at m3 hL EA
  clear ea hrd ell
  go_wp2_with fail
  go_loopw [11, 12] (fun s t wr => ∃ j : Nat, t = .int .i64 j ∧ j ≤ ll ∧ s = .int .i64 (((R.all.take j).countP fun r => r.t.f0 == se : Nat) : Int) ∧ Kept w4 wr) (fun _ t _ => ll - (intOf t).toNat)
  case atStart => exact ⟨0, rfl, Nat.zero_le _, rfl, Same.refl _ _⟩
  case round =>
    obtain ⟨j, rfl, hj, rfl, kj⟩ := hrel
    rename World => WL
    have KJ : Hid (Kept w4 WL) := kj
    have n0 : WL.cell? ⟨g, 1, none⟩ = some (.int .i64 se) := (kj.cell (p := ⟨g, 1, none⟩) hg (fun e => e)).trans c1
    have hgj := Nat.lt_of_lt_of_le hg kj.size
    have hrj := Nat.lt_of_lt_of_le hrl kj.size
    have n3 : WL.cell? ⟨rb, 3, none⟩ = some (.slice a ll cap) := (kj.cell (p := ⟨rb, 3, none⟩) hrl (fun e => e)).trans m3
    have hcn : (R.all.take j).countP (fun r => r.t.f0 == se) ≤ j := Nat.le_trans List.countP_le_length (by rw [List.length_take]; exact Nat.min_le_left _ _)
    by_cases hlt : j < ll
    · have d1 : decide ((j : Int) < (ll : Int)) = true := by simp only [decide_eq_true_eq]; omega
      have hlt2 : (j : Int) < (ll : Int) := by omega
      have hlt3 : (0 : Int) ≤ (j : Int) := by omega
      obtain ⟨r, hr⟩ : ∃ r, R.all[j]? = some r := ⟨_, List.getElem?_eq_getElem (by rw [← show ll = _ from ELL.out]; exact hlt)⟩
      obtain ⟨b, off, oa, oc, ta, tc, rfl, hb, hR⟩ := HRN.out j r hr
      have q0 := (hR.on hb kj).c0
      have hbj := Nat.lt_of_lt_of_le hb kj.size
      have HTK : Hid (R.all.take (j + 1) = R.all.take j ++ [r]) := (by rw [List.take_add_one, hr]; rfl : R.all.take (j + 1) = R.all.take j ++ [r])
      clear hr hR kj
      cases e1 : (r.t.f0 == se)
      · have HC : Hid ((R.all.take (j + 1)).countP (fun r => r.t.f0 == se) = (R.all.take j).countP (fun r => r.t.f0 == se)) := (by rw [HTK.out, List.countP_append]; simp [e1] : (R.all.take (j + 1)).countP (fun r => r.t.f0 == se) = (R.all.take j).countP (fun r => r.t.f0 == se))
        generalize (R.all.take j).countP (fun r => r.t.f0 == se) = cj at *
        go_upto_region 12 with fail
        go_quiet (fail)
        go_wp2_with fail
        go_roundw
        case rel => exact ⟨j + 1, by simp, by omega, by rw [HC.out], (by (repeat (first | exact KJ.out | apply Same.drewN | apply Same.drew)); done)⟩
        case measure => simp only [intOf]; omega
      · have HC : Hid ((R.all.take (j + 1)).countP (fun r => r.t.f0 == se) = (R.all.take j).countP (fun r => r.t.f0 == se) + 1) := (by rw [HTK.out, List.countP_append]; simp [e1] : (R.all.take (j + 1)).countP (fun r => r.t.f0 == se) = (R.all.take j).countP (fun r => r.t.f0 == se) + 1)
        generalize (R.all.take j).countP (fun r => r.t.f0 == se) = cj at *
        go_upto_region 12 with fail
        go_quiet (fail)
        go_wp2_with fail
        go_roundw
        case rel => exact ⟨j + 1, by simp, by omega, by rw [HC.out]; simp, (by (repeat (first | exact KJ.out | apply Same.drewN | apply Same.drew)); done)⟩
        case measure => simp only [intOf]; omega
    · have d1 : decide ((j : Int) < (ll : Int)) = false := by simp only [decide_eq_false_iff_not]; omega
      obtain rfl : ll = j := by omega
      have HCN : Hid ((R.all.take ll).countP (fun r => r.t.f0 == se) = R.all.countP (fun r => r.t.f0 == se)) := (by rw [ELL.out, List.take_length] : (R.all.take ll).countP (fun r => r.t.f0 == se) = R.all.countP (fun r => r.t.f0 == se))
      rw [HCN.out]
      have Q4 : Hid (Rq tg w WL rb n fl (rTick R c) av ev L) := Rq.on Q2.out kj
      clear HCN HRN kj n3 hrj hgj n0 c0 c1 c2 c3 c4 hg m2 m3 hrl Q2 HA
      obtain ⟨hrl, ⟨-, -, m2, m3, -⟩, -⟩ := Rq.cells Q4.out
      simp only [rTick] at m2
      have G6 : Hid (WL.heap[g]? = some (stO ⟨1, se, gp, k, v⟩)) := (KJ.out.block g (lt_of_heap G3.out) (fun e => e)).trans G3.out
      obtain ⟨c0, c1, c2, c3, c4⟩ := st_cells G6.out
      have hg := lt_of_heap G6.out
      simp only at c0 c1 c2 c3 c4
      have HAP : Hid (∀ W', Kept WL W' → ∀ g', W'.heap[g']? = some (.cells #[.int .i64 se, .int .i64 ((R.all.countP fun r => r.t.f0 == se : Nat) : Int), .int .i64 c, .int .i64 0, .int .i64 R.clock, .int .i64 0, .int .i64 0, .slice none 0 0, .int .i64 0, .slice none 0 0] 113 (0, 0)) → ∀ ty, ∃ v' w', (Builtin.append_ #[106, 106] ty #[av, .slice (some ⟨g', 0, none⟩) 1 1]).run Try.prog W' = .ok v' w' ∧ ((w'.cell? ⟨rb, 3, none⟩ = some av ∧ w'.frozen? ⟨rb, 3, none⟩ = false ∧ rb < w'.heap.size ∧ ∃ a n c, v' = .slice a n c) ∧ ∃ L, Rq tg w (w'.setCell ⟨rb, 3, none⟩ v') rb n fl (rBeg (rTick R c) se R.clock) v' ev L)) := fun W' k' g' hg' ty => by
        obtain ⟨tg', q1, q2⟩ := Rq.ex (Rq.on Q4.out k')
        have hlen : L.length < 4096 := by have := congrArg List.length HLL.out; rw [List.length_map] at this; have h8 := ELL.out; omega
        obtain ⟨v', w', h1, h2, h3, h4⟩ := app_run (r := ⟨⟨se, ((R.all.countP fun r => r.t.f0 == se : Nat) : Int), c, 0, R.clock, 0, 0, []⟩, 0, []⟩) q1.all hg' (by omega) (Nat.zero_le _) ty
        obtain ⟨⟨h5, h6⟩, h7⟩ := Rq.addRun Q4.out k' (r := ⟨⟨se, ((R.all.countP fun r => r.t.f0 == se : Nat) : Int), c, 0, R.clock, 0, 0, []⟩, 0, []⟩) ⟨rfl, rfl⟩ h2 h3 h4
        refine ⟨v', w', h1, ⟨(cell_of h5 3).trans rfl, frozen_of h5 3, lt_of_heap h5, h6⟩, L ++ [((⟨⟨se, ((R.all.countP fun r => r.t.f0 == se : Nat) : Int), c, 0, R.clock, 0, 0, []⟩, 0, []⟩ : Rn), .slice none 0 0, .slice none 0 0)], ?_⟩
        unfold rBeg
        exact h7
      rw [EA.out] at m3 HAP
      go_upto_region 14 with fail
      go_region_law ((refine step_app rfl (.tmp 72) (.tmp 83) 106 rfl _ (.slice (some ⟨WL.heap.size, 0, none⟩) 1 1) rfl rfl _ (HAP.out _ (by (repeat (first | assumption | exact Same.refl _ _ | apply Same.alloc | apply Same.drew | apply Same.drewN)); done) _ (by exact heap_new _ _)) ?_); rintro v4 w5 ⟨⟨c40, f40, b40, a4, n4, cp4, rfl⟩, L4, ip⟩; have IP : Hid _ := ip; clear ip)
      all_goals
        go_wp2_with fail
        ((try simp only [Exit.inBlock, Exit.then]); refine bodyPost_ret (results_tmp4 rfl _ _ _) rfl ?_)
        exact ⟨rfl, _, _, L4, Rq.on IP.out (by (repeat (first | exact Same.refl _ _ | apply Same.drew | apply Same.drewN)); done)⟩
end Go.Proofs.Ytbjmdpfoeeadeaa.Ch.Mc
