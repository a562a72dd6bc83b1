/- What is proved: the document's machine: operate, the fourth kind; no condition. -/
import Derived.Test.YtbjmdpfoeeadeaaMDo
namespace Go.Proofs.Ytbjmdpfoeeadeaa.Ch.Mc
open Go.RowKit

theorem keep_box4 {S : Nat → Prop} {W' w' : World} (hs : Same S W' w') {q : Nat} {o : Obj} (hq : W'.heap[q]? = some o) (hn : ¬ S q) {b j : Nat} (hb : q ≠ b) (v : Value) : (w'.setCell ⟨b, j, none⟩ v).heap[q]? = some o := (heap_set (p := ⟨b, j, none⟩) hb).trans ((hs.block q (lt_of_heap hq) hn).trans hq)
set_option maxRecDepth 100000 in
set_option maxHeartbeats 3200000 in
theorem rdo_4 {tg : Nat → Ug} {w : World} {rb n : Nat} {fl : Int} {R : Rr} {av ev : Value} {L : List Rt} (h : Rm tg w rb n fl R av ev L) (hs : Sml R) (hc : 0 ≤ R.clock ∧ R.clock ≤ 1099511627776) (se gp : Int) (k v : ByteArray) (hk : k.size ≤ maxLen) (hv : v.size ≤ maxLen) (h0 : rCode n R ⟨4, se, gp, k, v⟩ = 0) (hgp : 0 ≤ gp ∧ gp ≤ 1000) {i : Nat} (ha : rAct R.all se = some i) (hop : (gR R.all i).t.ops.length < 16) : RoP tg w rb n fl ⟨4, se, gp, k, v⟩ (rOp (rTick R (R.clock + 1 + gp)) i (opD ⟨4, se, gp, k, v⟩)) an0 0 := by
  have K0 : Hid (Kept w (w.alloc (stO ⟨4, se, gp, k, v⟩))) := (Same.refl _ w).alloc _
  have G0 : Hid _ := heap_new w (stO ⟨4, se, gp, k, v⟩)
  have Q0 : Hid (Rq tg w (w.alloc (stO ⟨4, se, gp, k, v⟩)) rb n fl R av ev L) := (Rq.start h).on K0.out
  have HRF : Hid (Calls Try.prog 61 #[.pointer (some ⟨rb, 0, none⟩), stA ⟨4, se, gp, k, v⟩] (w.alloc (stO ⟨4, se, gp, k, v⟩)) fun e w' => e = .returned (.int .i64 0) ∧ Kept (w.alloc (stO ⟨4, se, gp, k, v⟩)) w') := by
    obtain ⟨a, cap, ea, hrd⟩ := Rq.rd Q0.out
    have := rrefuse15 hrd hs ⟨4, se, gp, k, v⟩ hk hv
    unfold RfP at this
    rw [h0] at this
    exact this
  obtain ⟨c, ec⟩ : ∃ c, c = R.clock + 1 + gp := ⟨_, rfl⟩
  have S1 : Hid (Sml (rTick R c)) := ⟨hs.n, hs.e, hs.o⟩
  have wr1 : IntKind.i64.wrap (1 + gp) = 1 + gp := by rw [IntKind.wrap_i64] <;> omega
  have wr2 : IntKind.i64.wrap (R.clock + (1 + gp)) = c := by rw [IntKind.wrap_i64] <;> omega
  have wb1 : -9223372036854775808 ≤ 1 + gp ∧ 1 + gp ≤ 9223372036854775807 := by omega
  have wb2 : -9223372036854775808 ≤ R.clock + (1 + gp) ∧ R.clock + (1 + gp) ≤ 9223372036854775807 := by omega
  have EQC : Hid (R.clock + (1 + gp) = c) := (by omega : R.clock + (1 + gp) = c)
  rw [← ec]
  unfold RoP
  have HA : Hid (rAct R.all se = some i) := ha
  have hi : i < R.all.length := by
    obtain ⟨r, h1, -⟩ := rAct_in ha
    exact (List.getElem?_eq_some_iff.1 h1).1
  obtain ⟨x, hx, ex⟩ : ∃ x, L[i]? = some x ∧ x.1 = gR R.all i := by
    have hm := h.map
    have hl : i < L.length := by rw [← hm, List.length_map] at hi; exact hi
    exact ⟨L[i], List.getElem?_eq_getElem hl, by rw [← hm]; exact (gR_of (by rw [List.getElem?_map, List.getElem?_eq_getElem hl]; rfl)).symm⟩
  have HX : Hid (L[i]? = some x) := hx
  have EX : Hid (x.1 = gR R.all i) := ex
  have HI : Hid (i < R.all.length) := hi
  obtain ⟨b, cap, ea⟩ := Rq.place Q0.out hx
  have EA : Hid (av = .slice (some ⟨b, 0, none⟩) L.length cap) := ea
  have OB : Hid (av.ownBlock = some b) := (by rw [ea]; rfl : av.ownBlock = some b)
  have hil := (List.getElem?_eq_some_iff.1 hx).1
  have hln : L.length ≤ 4096 := by have := hs.n; rw [← h.map, List.length_map] at this; exact this
  obtain ⟨ll, ell⟩ : ∃ ll, ll = L.length := ⟨_, rfl⟩
  rw [← ell] at EA hil hln
  have ELL : Hid (ll = L.length) := ell
  have hi2 : (i : Int) < (ll : Int) := by omega
  have hi3 : decide ((i : Int) < (ll : Int)) = true := decide_eq_true hi2
  clear ha hx ex hi ea ell
  unfold opD
  simp only
  have hop2 : x.1.t.ops.length < 16 ∧ x.1.ts.length < 16 := by
    have h8 := hs.o _ (by have h9 := gR_at (l := R.all) HI.out; exact List.mem_of_getElem? h9)
    rw [EX.out]
    omega
  have HOP : Hid _ := hop2
  clear hop hop2
  clear h hk hv h0 ec
  unfold stA
  simp only
  go_enter Try.func44, Try.ntmps44
  go_upto_region 1 with fail
  generalize w.alloc (stO ⟨4, se, gp, k, v⟩) = W at *
  generalize w.heap.size = g at G0 ⊢
  obtain ⟨c0, c1, c2, c3, c4⟩ := st_cells G0.out
  have hg := lt_of_heap G0.out
  simp only at c0 c1 c2 c3 c4
  go_wp2_with fail
  refine Calls.mono HRF.out ?_
  rintro r2 w2 ⟨rfl, k2⟩
  have Q1 : Hid (Rq tg w w2 rb n fl R av ev L) := Rq.on Q0.out k2
  have G2 : Hid (w2.heap[g]? = some (stO ⟨4, se, gp, k, v⟩)) := (k2.block g hg (fun e => e)).trans G0.out
  clear c0 c1 c2 c3 c4 hg k2 Q0 G0 HRF K0
  obtain ⟨c0, c1, c2, c3, c4⟩ := st_cells G2.out
  have hg := lt_of_heap G2.out
  simp only at c0 c1 c2 c3 c4
  obtain ⟨hrl, ⟨-, -, m2, m3, -⟩, fz⟩ := Rq.cells Q1.out
  have fz2 := fz 2
  clear fz
  go_upto_region 5 with fail
  go_region
  have hgr : g ≠ rb := fun e => by
    obtain ⟨tg1, h1, -⟩ := Rq.ex Q1.out
    subst e
    exact types_ne G2.out h1.obj (by decide)
  have Q2 : Hid (Rq tg w ((w2.setCell ⟨rb, 2, none⟩ (.int .i64 c)).drew) rb n fl (rTick R c) av ev L) := Rq.on (Rq.clock Q1.out c) (Same.refl _ _).drew
  have G3 : Hid ((w2.setCell ⟨rb, 2, none⟩ (.int .i64 c)).drew.heap[g]? = some (stO ⟨4, se, gp, k, v⟩)) := (heap_set (w := w2) (p := ⟨rb, 2, none⟩) (u := .int .i64 c) hgr).trans G2.out
  generalize (w2.setCell ⟨rb, 2, none⟩ (.int .i64 c)).drew = W3 at *
  clear c0 c1 c2 c3 c4 hg m2 m3 fz2 hrl G2 Q1
  obtain ⟨c0, c1, c2, c3, c4⟩ := st_cells G3.out
  have hg := lt_of_heap G3.out
  simp only at c0 c1 c2 c3 c4
  have HAC : Hid (Calls Try.prog 62 #[.pointer (some ⟨rb, 0, none⟩), .int .i64 se] W3 fun e w' => e = .returned (.int .i64 (i : Int)) ∧ w' = W3) := by
    obtain ⟨a, cap, ea, hrd⟩ := Rq.rd Q2.out
    have h9 := ractive15 hrd S1.out.n se
    rw [show rAct (rTick R c).all se = some i from HA.out] at h9
    exact h9
  go_wp2_with fail
  refine Calls.mono HAC.out ?_
  rintro r4 w4 ⟨rfl, e4⟩
  subst e4
  clear HAC
  go_upto_region 28 with fail
  have KA : Hid (Kept w4 (w4.alloc (.cells #[.int .i64 3, .string k, .bool false, .string ⟨#[]⟩] 79 (0, 0)))) := (Same.refl _ w4).alloc _
  have GB : Hid _ := heap_new w4 (.cells #[.int .i64 3, .string k, .bool false, .string ⟨#[]⟩] 79 (0, 0))
  have HOB : Hid (∀ b', x.2.1.ownBlock = some b' → b' < w4.heap.size) := fun b' hb' => by
    obtain ⟨tg', h1, -⟩ := Rq.ex Q2.out
    obtain ⟨r1, -, r3, -⟩ := h1.row i x HX.out
    exact h1.lt b' (by rw [r3 b' hb']; exact fun e => by cases e)
  have GS : Hid ((w4.alloc (.cells #[.int .i64 3, .string k, .bool false, .string ⟨#[]⟩] 79 (0, 0))).heap[g]? = some (stO ⟨4, se, gp, k, v⟩)) := (KA.out.block g hg (fun e => e)).trans G3.out
  have hgo : g ≠ w4.heap.size := by omega
  have HSZ : Hid (∀ b', b' < w4.heap.size → b' ≠ w4.heap.size) := fun b' h1 h2 => by omega
  generalize w4.alloc (.cells #[.int .i64 3, .string k, .bool false, .string ⟨#[]⟩] 79 (0, 0)) = W5 at *
  clear c0 c1 c2 c3 c4 hg G3
  obtain ⟨ob, eob⟩ : ∃ ob, ob = w4.heap.size := ⟨_, rfl⟩
  rw [← eob] at HOB HSZ GB hgo ⊢
  have EOB : Hid (w4.heap.size = ob) := eob.symm
  clear eob
  have GS7 : Hid (W5.heap[g]? = some (stO ⟨4, se, gp, k, v⟩)) := GS.out
  have GB7 : Hid (W5.heap[ob]? = some (.cells #[.int .i64 3, .string k, .bool false, .string ⟨#[]⟩] 79 (0, 0))) := GB.out
  have QW : Hid (Rq tg w W5 rb n fl (rTick R c) av ev L) := Rq.on Q2.out KA.out
  clear KA GB GS
  obtain ⟨c0, c1, c2, c3, c4⟩ := st_cells GS7.out
  have hg := lt_of_heap GS7.out
  simp only at c0 c1 c2 c3 c4
  go_upto_region 35 with fail
  generalize W5 = W7 at *
  clear c0 c1 c2 c3 c4 hg
  have F0 : Hid (Fx tg w W7 rb n fl (rTick R c) av ev i x.1 x.2 ll) := (by rw [ELL.out]; exact Fx.start QW.out HX.out)
  clear QW Q2
  have HFIN : Hid (∀ wx v7 v9, Fx tg w wx rb n fl (rTick R c) av ev i (⟨⟨x.1.t.f0, x.1.t.f1, x.1.t.f2, x.1.t.f3, x.1.t.f4, x.1.t.f5, x.1.t.f6, x.1.t.ops ++ [(⟨3, k, false, ⟨#[]⟩⟩ : OpM)]⟩, x.1.st, x.1.ts ++ [c]⟩ : Rn) (v7, v9) ll → ∃ av ev L, Rq tg w wx rb n fl (rOp (rTick R c) i (⟨3, k, false, ⟨#[]⟩⟩ : OpM)) av ev L) := fun wx v7 v9 h9 => by
    obtain ⟨L9, -, -, h8⟩ := h9
    refine ⟨av, ev, L9, ?_⟩
    unfold rOp addR
    rw [show gR (rTick R c).all i = x.1 from EX.out.symm]
    exact h8
  have gb : ∀ (W' : World), Kept W7 W' → W'.heap[g]? = some (stO ⟨4, se, gp, k, v⟩) ∧ W'.heap[ob]? = some (.cells #[.int .i64 3, .string k, .bool false, .string ⟨#[]⟩] 79 (0, 0)) := fun W' k' => ⟨(k'.block g (lt_of_heap GS7.out) (fun e => e)).trans GS7.out, (k'.block ob (lt_of_heap GB7.out) (fun e => e)).trans GB7.out⟩
  have HGB : Hid _ := gb
  clear gb
  have HAP : Hid (∀ W', Kept W7 W' → ∀ g', W'.heap[g']? = some (.cells #[.int .i64 3, .string k, .bool false, .string ⟨#[]⟩] 79 (0, 0)) → ∀ ty, ∃ v' w', (Builtin.append_ #[22, 22] ty #[x.2.1, .slice (some ⟨g', 0, none⟩) 1 1]).run Try.prog W' = .ok v' w' ∧ (w'.heap[ob]? = some (.cells #[.int .i64 3, .string k, .bool false, .string ⟨#[]⟩] 79 (0, 0)) ∧ (w'.cell? ⟨rb, 3, none⟩ = some (.slice (some ⟨b, 0, none⟩) ll cap) ∧ rb < w'.heap.size ∧ w'.cell? ⟨b, i * 10 + 7, none⟩ = some x.2.1 ∧ w'.frozen? ⟨b, i * 10 + 7, none⟩ = false ∧ b < w'.heap.size ∧ ∃ a n c, v' = .slice a n c) ∧ Fx tg w (w'.setCell ⟨b, i * 10 + 7, none⟩ v') rb n fl (rTick R c) av ev i (⟨⟨x.1.t.f0, x.1.t.f1, x.1.t.f2, x.1.t.f3, x.1.t.f4, x.1.t.f5, x.1.t.f6, x.1.t.ops ++ [(⟨3, k, false, ⟨#[]⟩⟩ : OpM)]⟩, x.1.st, x.1.ts⟩ : Rn) (v', x.2.2) ll ∧ (w'.setCell ⟨b, i * 10 + 7, none⟩ v').heap[g]? = some (stO ⟨4, se, gp, k, v⟩) ∧ (w'.setCell ⟨b, i * 10 + 7, none⟩ v').heap[ob]? = some (.cells #[.int .i64 3, .string k, .bool false, .string ⟨#[]⟩] 79 (0, 0)))) := fun W' k' g' hg' ty => by
    have hop9 := HOP.out
    have ho7 := (Fx.rows F0.out).1
    obtain ⟨v', w', h1, h2, h3, h4⟩ := app_op (⟨3, k, false, ⟨#[]⟩⟩ : OpM) (OwnO.on ho7 k') (op_at hg') (by omega) (Nat.zero_le _) ty
    obtain ⟨h5, h6⟩ := Fx.addOp F0.out k' EA.out h2 h3 h4
    obtain ⟨hb1, hb2⟩ := HGB.out W' k'
    obtain ⟨Lx, -, -, hq⟩ := Fx.on F0.out k'
    obtain ⟨tgx, hrm, -⟩ := Rq.ex hq
    obtain ⟨-, cur, hcur⟩ := row_block hrm.all OB.out
    exact ⟨v', w', h1, (h3.block ob (lt_of_heap hb2) (fun e => HSZ.out _ (HOB.out _ e) rfl)).trans hb2, h5, h6, keep_box4 h3 hb1 (fun e => by obtain ⟨-, cu, hcu⟩ := row_block (OwnO.on ho7 k') e; exact types_ne hb1 hcu (by decide)) (fun e => by subst e; exact types_ne hb1 hcur (by decide)) _, keep_box4 h3 hb2 (fun e => HSZ.out _ (HOB.out _ e) rfl) (fun e => by subst e; exact types_ne hb2 hcur (by decide)) _⟩
  obtain ⟨⟨hrl, m2, m3, -⟩, hbl, hcl, fz⟩ := Fx.cells F0.out EA.out
  have cj := hcl 7 _ (by decide) rfl
  have fj := fz (i * 10 + 7)
  clear hcl fz
  simp only [rTick] at m2
  have x0 : W7.cell? ⟨ob, 0, none⟩ = some (.int .i64 3) := (cell_of GB7.out 0).trans rfl
  have x1 : W7.cell? ⟨ob, 1, none⟩ = some (.string k) := (cell_of GB7.out 1).trans rfl
  have x2 : W7.cell? ⟨ob, 2, none⟩ = some (.bool false) := (cell_of GB7.out 2).trans rfl
  have x3 : W7.cell? ⟨ob, 3, none⟩ = some (.string ⟨#[]⟩) := (cell_of GB7.out 3).trans rfl
  have hob := lt_of_heap GB7.out
  obtain ⟨oa, ocp, eov, -⟩ := OwnO.ops (Fx.rows F0.out).1
  have EOV : Hid _ := eov
  rw [eov] at cj HAP
  clear eov F0
  generalize x.1.t.ops.length = on at *
  have HBX : Hid (∀ W' : World, W'.heap[ob]? = some (.cells #[.int .i64 3, .string k, .bool false, .string ⟨#[]⟩] 79 (0, 0)) → (W'.cell? ⟨rb, 3, none⟩ = some (.slice (some ⟨b, 0, none⟩) ll cap) ∧ rb < W'.heap.size) → (W'.cell? ⟨rb, 3, none⟩ = some (.slice (some ⟨b, 0, none⟩) ll cap) ∧ rb < W'.heap.size) ∧ W'.cell? ⟨ob, 0, none⟩ = some (.int .i64 3) ∧ W'.cell? ⟨ob, 1, none⟩ = some (.string k) ∧ W'.cell? ⟨ob, 2, none⟩ = some (.bool false) ∧ W'.cell? ⟨ob, 3, none⟩ = some (.string ⟨#[]⟩)) := fun W' h1 h2 => ⟨h2, (cell_of h1 0).trans rfl, (cell_of h1 1).trans rfl, (cell_of h1 2).trans rfl, (cell_of h1 3).trans rfl⟩
  have HBK : Hid (∀ W' : World, Kept W7 W' → (W'.cell? ⟨rb, 3, none⟩ = some (.slice (some ⟨b, 0, none⟩) ll cap) ∧ rb < W'.heap.size) ∧ W'.cell? ⟨ob, 0, none⟩ = some (.int .i64 3) ∧ W'.cell? ⟨ob, 1, none⟩ = some (.string k) ∧ W'.cell? ⟨ob, 2, none⟩ = some (.bool false) ∧ W'.cell? ⟨ob, 3, none⟩ = some (.string ⟨#[]⟩)) := fun W' k' => HBX.out W' (HGB.out W' k').2 ⟨(k'.cell (p := ⟨rb, 3, none⟩) hrl (fun e => e)).trans m3, Nat.lt_of_lt_of_le hrl k'.size⟩
  have HCJ : Hid (∀ W' : World, Kept W7 W' → W'.cell? ⟨b, i * 10 + 7, none⟩ = some (.slice oa on ocp)) := fun W' k' => (k'.cell (p := ⟨b, i * 10 + 7, none⟩) hbl (fun e => e)).trans cj
  clear x0 x1 x2 x3 cj fj m2 m3
  go_cut [194] (fun s194 wx => ∃ v7, Fx tg w wx rb n fl (rTick R c) av ev i (⟨⟨x.1.t.f0, x.1.t.f1, x.1.t.f2, x.1.t.f3, x.1.t.f4, x.1.t.f5, x.1.t.f6, x.1.t.ops ++ [(⟨3, k, false, ⟨#[]⟩⟩ : OpM)]⟩, x.1.st, x.1.ts⟩ : Rn) (v7, x.2.2) ll ∧ wx.heap[g]? = some (stO ⟨4, se, gp, k, v⟩) ∧ wx.heap[ob]? = some (.cells #[.int .i64 3, .string k, .bool false, .string ⟨#[]⟩] 79 (0, 0)))
  case first =>
    refine wp_region_held_drew (S := fun W' => (W'.cell? ⟨rb, 3, none⟩ = some (.slice (some ⟨b, 0, none⟩) ll cap) ∧ rb < W'.heap.size) ∧ W'.cell? ⟨ob, 0, none⟩ = some (.int .i64 3) ∧ W'.cell? ⟨ob, 1, none⟩ = some (.string k) ∧ W'.cell? ⟨ob, 2, none⟩ = some (.bool false) ∧ W'.cell? ⟨ob, 3, none⟩ = some (.string ⟨#[]⟩)) (by kernel_rfl) (HBK.out _ (by (repeat (first | exact Same.refl _ _ | apply Same.alloc | apply Same.drew | apply Same.drewN)); done)) (fun hHeld => ?_)
    (try simp only [Act.put, List.getElem_toArray, List.getElem_cons_succ, List.getElem_cons_zero, List.setIfInBounds_toArray, List.set_cons_zero, List.set_cons_succ])
    refine wpAnyH_take (i := 0) (v := (.pointer (some ⟨rb, 0, none⟩))) rfl (by kernel_rfl) (by kernel_rfl) (by kernel_rfl) (fun _ _ _ h => h) (Or.inl ⟨by rfl, fun w hSw => by (dsimp only at hSw; go_simp)⟩) (by assumption) ?_
    (try simp only [Act.put, List.getElem_toArray, List.getElem_cons_zero, List.setIfInBounds_toArray, List.set_cons_zero, List.set_cons_succ])
    refine wpAnyH_take (i := 1) (v := (.pointer (some ⟨rb, 0, none⟩))) rfl (by kernel_rfl) (by kernel_rfl) (by kernel_rfl) (fun _ _ _ h => h) (Or.inl ⟨by rfl, fun w hSw => by (dsimp only at hSw; go_simp)⟩) (by assumption) ?_
    (try simp only [Act.put, List.getElem_toArray, List.getElem_cons_succ, List.getElem_cons_zero, List.setIfInBounds_toArray, List.set_cons_zero, List.set_cons_succ])
    refine wpAnyH_take (i := 2) (v := (.pointer (some ⟨rb, 3, none⟩))) rfl (by kernel_rfl) (by kernel_rfl) (by kernel_rfl) (fun _ _ _ h => h) (Or.inl ⟨by rfl, fun w hSw => by (dsimp only at hSw; go_simp)⟩) (by assumption) ?_
    (try simp only [Act.put, List.getElem_toArray, List.getElem_cons_succ, List.getElem_cons_zero, List.setIfInBounds_toArray, List.set_cons_zero, List.set_cons_succ])
    refine wpAnyH_take (i := 3) (v := (.slice (some ⟨b, 0, none⟩) ll cap)) rfl (by kernel_rfl) (by kernel_rfl) (by kernel_rfl) (fun _ _ _ h => h) (Or.inl ⟨by rfl, fun w hSw => by (dsimp only at hSw; go_simp)⟩) (by assumption) ?_
    (try simp only [Act.put, List.getElem_toArray, List.getElem_cons_succ, List.getElem_cons_zero, List.setIfInBounds_toArray, List.set_cons_zero, List.set_cons_succ])
    refine wpAnyH_take (i := 4) (v := (.int .i64 (i : Int))) rfl (by kernel_rfl) (by kernel_rfl) (by kernel_rfl) (fun _ _ _ h => h) (Or.inl ⟨by rfl, fun w hSw => by (dsimp only at hSw; go_simp)⟩) (by assumption) ?_
    (try simp only [Act.put, List.getElem_toArray, List.getElem_cons_succ, List.getElem_cons_zero, List.setIfInBounds_toArray, List.set_cons_zero, List.set_cons_succ])
    refine wpAnyH_take (i := 5) (v := (.pointer (some ⟨rb, 0, none⟩))) rfl (by kernel_rfl) (by kernel_rfl) (by kernel_rfl) (fun _ _ _ h => h) (Or.inl ⟨by rfl, fun w hSw => by (dsimp only at hSw; go_simp)⟩) (by assumption) ?_
    (try simp only [Act.put, List.getElem_toArray, List.getElem_cons_succ, List.getElem_cons_zero, List.setIfInBounds_toArray, List.set_cons_zero, List.set_cons_succ])
    refine wpAnyH_take (i := 6) (v := (.pointer (some ⟨rb, 0, none⟩))) rfl (by kernel_rfl) (by kernel_rfl) (by kernel_rfl) (fun _ _ _ h => h) (Or.inl ⟨by rfl, fun w hSw => by (dsimp only at hSw; go_simp)⟩) (by assumption) ?_
    (try simp only [Act.put, List.getElem_toArray, List.getElem_cons_succ, List.getElem_cons_zero, List.setIfInBounds_toArray, List.set_cons_zero, List.set_cons_succ])
    refine wpAnyH_take (i := 7) (v := (.pointer (some ⟨rb, 3, none⟩))) rfl (by kernel_rfl) (by kernel_rfl) (by kernel_rfl) (fun _ _ _ h => h) (Or.inl ⟨by rfl, fun w hSw => by (dsimp only at hSw; go_simp)⟩) (by assumption) ?_
    (try simp only [Act.put, List.getElem_toArray, List.getElem_cons_succ, List.getElem_cons_zero, List.setIfInBounds_toArray, List.set_cons_zero, List.set_cons_succ])
    refine wpAnyH_take (i := 8) (v := (.slice (some ⟨b, 0, none⟩) ll cap)) rfl (by kernel_rfl) (by kernel_rfl) (by kernel_rfl) (fun _ _ _ h => h) (Or.inl ⟨by rfl, fun w hSw => by (dsimp only at hSw; go_simp)⟩) (by assumption) ?_
    (try simp only [Act.put, List.getElem_toArray, List.getElem_cons_succ, List.getElem_cons_zero, List.setIfInBounds_toArray, List.set_cons_zero, List.set_cons_succ])
    refine wpAnyH_take (i := 9) (v := (.int .i64 (i : Int))) rfl (by kernel_rfl) (by kernel_rfl) (by kernel_rfl) (fun _ _ _ h => h) (Or.inl ⟨by rfl, fun w hSw => by (dsimp only at hSw; go_simp)⟩) (by assumption) ?_
    (try simp only [Act.put, List.getElem_toArray, List.getElem_cons_succ, List.getElem_cons_zero, List.setIfInBounds_toArray, List.set_cons_zero, List.set_cons_succ])
    refine wpAnyH_take (i := 10) (v := (.pointer (some ⟨b, i * 10, none⟩))) rfl (by kernel_rfl) (by kernel_rfl) (by kernel_rfl) (fun _ _ _ h => h) (Or.inl ⟨by rfl, fun w hSw => by (dsimp only at hSw; go_simp)⟩) (by assumption) ?_
    (try simp only [Act.put, List.getElem_toArray, List.getElem_cons_succ, List.getElem_cons_zero, List.setIfInBounds_toArray, List.set_cons_zero, List.set_cons_succ])
    refine wpAnyH_take (i := 11) (v := (.pointer (some ⟨b, i * 10, none⟩))) rfl (by kernel_rfl) (by kernel_rfl) (by kernel_rfl) (fun _ _ _ h => h) (Or.inl ⟨by rfl, fun w hSw => by (dsimp only at hSw; go_simp)⟩) (by assumption) ?_
    (try simp only [Act.put, List.getElem_toArray, List.getElem_cons_succ, List.getElem_cons_zero, List.setIfInBounds_toArray, List.set_cons_zero, List.set_cons_succ])
    refine wpAnyH_take (i := 12) (v := (.pointer (some ⟨b, i * 10 + 7, none⟩))) rfl (by kernel_rfl) (by kernel_rfl) (by kernel_rfl) (fun _ _ _ h => h) (Or.inl ⟨by rfl, fun w hSw => by (dsimp only at hSw; go_simp)⟩) (by assumption) ?_
    (try simp only [Act.put, List.getElem_toArray, List.getElem_cons_succ, List.getElem_cons_zero, List.setIfInBounds_toArray, List.set_cons_zero, List.set_cons_succ])
    refine wpAnyH_take (i := 14) (v := (.agg #[.int .i64 3, .string k, .bool false, .string ⟨#[]⟩])) rfl (by kernel_rfl) (by kernel_rfl) (by kernel_rfl) (fun _ _ _ h => h) (Or.inl ⟨by rfl, fun w hSw => by (dsimp only at hSw; go_simp)⟩) (by assumption) ?_
    (try simp only [Act.put, List.getElem_toArray, List.getElem_cons_succ, List.getElem_cons_zero, List.setIfInBounds_toArray, List.set_cons_zero, List.set_cons_succ])
    refine wpAnyH_ready (rs := [13, 15]) (by kernel_rfl) (by simp) (AllReadyH.cons rfl (fun K hK => ?_) (AllReadyH.cons rfl (fun K hK => ?_) AllReadyH.nil))
    · have cj := HCJ.out _ (show Kept W7 _ from (by (repeat (first | exact Same.refl _ _ | apply Same.alloc | apply Same.drew | apply Same.drewN)); done))
      go_simp
      refine hK.out _ _ (HBK.out _ (by (repeat (first | exact Same.refl _ _ | apply Same.alloc | apply Same.drew | apply Same.drewN)); done)) (fun hHeld1 => ?_)
      clear hK K hHeld cj
      (try simp only [Act.put, List.getElem_toArray, List.getElem_cons_succ, List.getElem_cons_zero, List.setIfInBounds_toArray, List.set_cons_zero, List.set_cons_succ])
      refine wpAnyH_ready (rs := [15]) (by kernel_rfl) (by simp) (AllReadyH.cons rfl (fun K hK => ?_) AllReadyH.nil)
      go_simp
      refine hK.out _ _ (HBK.out _ (by (repeat (first | exact Same.refl _ _ | apply Same.alloc | apply Same.drew | apply Same.drewN)); done)) (fun hHeld2 => ?_)
      clear hK K hHeld1
      have hHeld1 := hHeld2
      clear hHeld2
      (try simp only [Act.put, List.getElem_toArray, List.getElem_cons_succ, List.getElem_cons_zero, List.setIfInBounds_toArray, List.set_cons_zero, List.set_cons_succ])
      refine wpAnyH_ready (rs := [16]) (by kernel_rfl) (by simp) (AllReadyH.cons rfl (fun K hK => ?_) AllReadyH.nil)
      refine step_app rfl (.tmp 191) (.tmp 193) 22 rfl _ _ rfl rfl _ (HAP.out _ (by (repeat (first | exact Same.refl _ _ | apply Same.alloc | apply Same.drew | apply Same.drewN)); done) _ (by first | exact heap_new _ _ | (refine (World.heap_drew ..).trans ?_; exact heap_new _ _))) ?_
      rintro v8 w8 ⟨gb8, ⟨c40, b40, c41, f41, b41, a4, n4, cp4, rfl⟩, ip1, ip2, ip3⟩
      have IP1 : Hid _ := ip1
      have IP2 : Hid _ := ip2
      have IP3 : Hid _ := ip3
      clear ip1 ip2 ip3
      refine hK.out _ _ (HBX.out _ gb8 ⟨c40, b40⟩) (fun hHeld2 => ?_)
      clear hK K hHeld1 HAP HBK HCJ
      (try simp only [Act.put, List.getElem_toArray, List.getElem_cons_succ, List.getElem_cons_zero, List.setIfInBounds_toArray, List.set_cons_zero, List.set_cons_succ])
      refine wpAnyH_take (i := 17) (v := (.pointer (some ⟨b, i * 10, none⟩))) rfl (by kernel_rfl) (by kernel_rfl) (by kernel_rfl) (fun _ _ _ h => h) (Or.inl ⟨by rfl, fun w hSw => by (dsimp only at hSw; go_simp)⟩) (by assumption) ?_
      (try simp only [Act.put, List.getElem_toArray, List.getElem_cons_succ, List.getElem_cons_zero, List.setIfInBounds_toArray, List.set_cons_zero, List.set_cons_succ])
      refine wpAnyH_take (i := 18) (v := (.pointer (some ⟨b, i * 10, none⟩))) rfl (by kernel_rfl) (by kernel_rfl) (by kernel_rfl) (fun _ _ _ h => h) (Or.inl ⟨by rfl, fun w hSw => by (dsimp only at hSw; go_simp)⟩) (by assumption) ?_
      (try simp only [Act.put, List.getElem_toArray, List.getElem_cons_succ, List.getElem_cons_zero, List.setIfInBounds_toArray, List.set_cons_zero, List.set_cons_succ])
      refine wpAnyH_take (i := 19) (v := (.pointer (some ⟨b, i * 10 + 7, none⟩))) rfl (by kernel_rfl) (by kernel_rfl) (by kernel_rfl) (fun _ _ _ h => h) (Or.inl ⟨by rfl, fun w hSw => by (dsimp only at hSw; go_simp)⟩) (by assumption) ?_
      (try simp only [Act.put, List.getElem_toArray, List.getElem_cons_succ, List.getElem_cons_zero, List.setIfInBounds_toArray, List.set_cons_zero, List.set_cons_succ])
      refine wpAnyH_ready (rs := [20]) (by kernel_rfl) (by simp) (AllReadyH.cons rfl (fun K hK => ?_) AllReadyH.nil)
      go_simp
      refine hK.out _ _ (HBX.out _ IP3.out (by obtain ⟨⟨h1, -, h2, -⟩, -⟩ := Fx.cells IP1.out EA.out; exact ⟨h2, h1⟩)) (fun hHeld3 => ?_)
      clear hK K hHeld2
      (try simp only [Act.put, List.getElem_toArray, List.getElem_cons_succ, List.getElem_cons_zero, List.setIfInBounds_toArray, List.set_cons_zero, List.set_cons_succ])
      refine wpAnyH_done (by kernel_rfl) ?_ _
      go_wp2_with fail
      go_meet
      exact ⟨_, IP1.out, IP2.out, IP3.out⟩
    · go_simp
      refine hK.out _ _ (HBK.out _ (by (repeat (first | exact Same.refl _ _ | apply Same.alloc | apply Same.drew | apply Same.drewN)); done)) (fun hHeld1 => ?_)
      clear hK K hHeld
      (try simp only [Act.put, List.getElem_toArray, List.getElem_cons_succ, List.getElem_cons_zero, List.setIfInBounds_toArray, List.set_cons_zero, List.set_cons_succ])
      refine wpAnyH_ready (rs := [13]) (by kernel_rfl) (by simp) (AllReadyH.cons rfl (fun K hK => ?_) AllReadyH.nil)
      have cj := HCJ.out _ (show Kept W7 _ from (by (repeat (first | exact Same.refl _ _ | apply Same.alloc | apply Same.drew | apply Same.drewN)); done))
      go_simp
      refine hK.out _ _ (HBK.out _ (by (repeat (first | exact Same.refl _ _ | apply Same.alloc | apply Same.drew | apply Same.drewN)); done)) (fun hHeld2 => ?_)
      clear hK K hHeld1 cj
      have hHeld1 := hHeld2
      clear hHeld2
      (try simp only [Act.put, List.getElem_toArray, List.getElem_cons_succ, List.getElem_cons_zero, List.setIfInBounds_toArray, List.set_cons_zero, List.set_cons_succ])
      refine wpAnyH_ready (rs := [16]) (by kernel_rfl) (by simp) (AllReadyH.cons rfl (fun K hK => ?_) AllReadyH.nil)
      refine step_app rfl (.tmp 191) (.tmp 193) 22 rfl _ _ rfl rfl _ (HAP.out _ (by (repeat (first | exact Same.refl _ _ | apply Same.alloc | apply Same.drew | apply Same.drewN)); done) _ (by first | exact heap_new _ _ | (refine (World.heap_drew ..).trans ?_; exact heap_new _ _))) ?_
      rintro v8 w8 ⟨gb8, ⟨c40, b40, c41, f41, b41, a4, n4, cp4, rfl⟩, ip1, ip2, ip3⟩
      have IP1 : Hid _ := ip1
      have IP2 : Hid _ := ip2
      have IP3 : Hid _ := ip3
      clear ip1 ip2 ip3
      refine hK.out _ _ (HBX.out _ gb8 ⟨c40, b40⟩) (fun hHeld2 => ?_)
      clear hK K hHeld1 HAP HBK HCJ
      (try simp only [Act.put, List.getElem_toArray, List.getElem_cons_succ, List.getElem_cons_zero, List.setIfInBounds_toArray, List.set_cons_zero, List.set_cons_succ])
      refine wpAnyH_take (i := 17) (v := (.pointer (some ⟨b, i * 10, none⟩))) rfl (by kernel_rfl) (by kernel_rfl) (by kernel_rfl) (fun _ _ _ h => h) (Or.inl ⟨by rfl, fun w hSw => by (dsimp only at hSw; go_simp)⟩) (by assumption) ?_
      (try simp only [Act.put, List.getElem_toArray, List.getElem_cons_succ, List.getElem_cons_zero, List.setIfInBounds_toArray, List.set_cons_zero, List.set_cons_succ])
      refine wpAnyH_take (i := 18) (v := (.pointer (some ⟨b, i * 10, none⟩))) rfl (by kernel_rfl) (by kernel_rfl) (by kernel_rfl) (fun _ _ _ h => h) (Or.inl ⟨by rfl, fun w hSw => by (dsimp only at hSw; go_simp)⟩) (by assumption) ?_
      (try simp only [Act.put, List.getElem_toArray, List.getElem_cons_succ, List.getElem_cons_zero, List.setIfInBounds_toArray, List.set_cons_zero, List.set_cons_succ])
      refine wpAnyH_take (i := 19) (v := (.pointer (some ⟨b, i * 10 + 7, none⟩))) rfl (by kernel_rfl) (by kernel_rfl) (by kernel_rfl) (fun _ _ _ h => h) (Or.inl ⟨by rfl, fun w hSw => by (dsimp only at hSw; go_simp)⟩) (by assumption) ?_
      (try simp only [Act.put, List.getElem_toArray, List.getElem_cons_succ, List.getElem_cons_zero, List.setIfInBounds_toArray, List.set_cons_zero, List.set_cons_succ])
      refine wpAnyH_ready (rs := [20]) (by kernel_rfl) (by simp) (AllReadyH.cons rfl (fun K hK => ?_) AllReadyH.nil)
      go_simp
      refine hK.out _ _ (HBX.out _ IP3.out (by obtain ⟨⟨h1, -, h2, -⟩, -⟩ := Fx.cells IP1.out EA.out; exact ⟨h2, h1⟩)) (fun hHeld3 => ?_)
      clear hK K hHeld2
      (try simp only [Act.put, List.getElem_toArray, List.getElem_cons_succ, List.getElem_cons_zero, List.setIfInBounds_toArray, List.set_cons_zero, List.set_cons_succ])
      refine wpAnyH_done (by kernel_rfl) ?_ _
      go_wp2_with fail
      go_meet
      exact ⟨_, IP1.out, IP2.out, IP3.out⟩
  case rest =>
    obtain ⟨v7, f1, gs1, gb1⟩ := hcut
    rename World => Z
    have F1 : Hid _ := f1
    have GS1 : Hid _ := gs1
    have GB1 : Hid _ := gb1
    clear f1 gs1 gb1 HAP HGB
    have HGB : Hid (∀ W' : World, Kept Z W' → W'.heap[g]? = some (stO ⟨4, se, gp, k, v⟩) ∧ W'.heap[ob]? = some (.cells #[.int .i64 3, .string k, .bool false, .string ⟨#[]⟩] 79 (0, 0))) := fun W' k' => ⟨(k'.block g (lt_of_heap GS1.out) (fun e => e)).trans GS1.out, (k'.block ob (lt_of_heap GB1.out) (fun e => e)).trans GB1.out⟩
    have HAP : Hid (∀ W' : World, Kept Z W' → ∀ g', W'.heap[g']? = some (.cells #[.int .i64 c] 3 (0, 0)) → ∀ ty, ∃ v' w', (Builtin.append_ #[107, 107] ty #[x.2.2, .slice (some ⟨g', 0, none⟩) 1 1]).run Try.prog W' = .ok v' w' ∧ (((w'.cell? ⟨rb, 3, none⟩ = some (.slice (some ⟨b, 0, none⟩) ll cap) ∧ rb < w'.heap.size) ∧ w'.cell? ⟨rb, 2, none⟩ = some (.int .i64 c)) ∧ (w'.cell? ⟨b, i * 10 + 9, none⟩ = some x.2.2 ∧ w'.frozen? ⟨b, i * 10 + 9, none⟩ = false ∧ b < w'.heap.size ∧ ∃ a n c, v' = .slice a n c) ∧ Fx tg w (w'.setCell ⟨b, i * 10 + 9, none⟩ v') rb n fl (rTick R c) av ev i (⟨⟨x.1.t.f0, x.1.t.f1, x.1.t.f2, x.1.t.f3, x.1.t.f4, x.1.t.f5, x.1.t.f6, x.1.t.ops ++ [(⟨3, k, false, ⟨#[]⟩⟩ : OpM)]⟩, x.1.st, x.1.ts ++ [c]⟩ : Rn) (v7, v') ll ∧ (w'.setCell ⟨b, i * 10 + 9, none⟩ v').heap[g]? = some (stO ⟨4, se, gp, k, v⟩) ∧ (w'.setCell ⟨b, i * 10 + 9, none⟩ v').heap[ob]? = some (.cells #[.int .i64 3, .string k, .bool false, .string ⟨#[]⟩] 79 (0, 0)))) := fun W' k' g' hg' ty => by
      have hop9 := HOP.out
      have ho7 := (Fx.rows F1.out).2
      obtain ⟨v', w', h1, h2, h3, h4⟩ := app_int (x := c) (row_kept ho7 k' fun _ _ e => e) hg' (by have := hop9.2; exact Nat.le_trans (Nat.le_of_lt this) (by decide)) (Nat.zero_le _) ty
      obtain ⟨⟨h5, h51, h52, h53, h54, h55⟩, h6⟩ := Fx.addAt F1.out k' EA.out h2 h3 h4
      obtain ⟨hb1, hb2⟩ := HGB.out W' k'
      obtain ⟨Lx, -, -, hq⟩ := Fx.on F1.out k'
      obtain ⟨tgx, hrm, -⟩ := Rq.ex hq
      obtain ⟨-, cur, hcur⟩ := row_block hrm.all OB.out
      have hne : ∀ {q : Nat} {u : Obj} {a t}, W'.heap[q]? = some u → u = .cells a t (0, 0) → t ≠ 3 → ¬ x.2.2.ownBlock = some q := fun hu e9 ht e => by
        obtain ⟨-, cu, hcu⟩ := row_block (row_kept ho7 k' fun _ _ e => e) e
        rw [e9] at hu
        exact types_ne hu hcu ht
      refine ⟨v', w', h1, ⟨⟨h5, h51⟩, ?_⟩, ⟨h52, h53, h54, h55⟩, h6, keep_box4 h3 hb1 (hne hb1 rfl (by decide)) (fun e => by subst e; exact types_ne hb1 hcur (by decide)) _, keep_box4 h3 hb2 (hne hb2 rfl (by decide)) (fun e => by subst e; exact types_ne hb2 hcur (by decide)) _⟩
      have h9 := (h3.block rb (lt_of_heap hrm.obj) (hne hrm.obj rfl (by decide))).trans hrm.obj
      exact (cell_of h9 2).trans rfl
    obtain ⟨⟨hrl, m2, m3, -⟩, hbl, hcl, fz⟩ := Fx.cells F1.out EA.out
    have cj := hcl 9 _ (by decide) rfl
    clear hcl fz
    simp only [rTick] at m2
    have HBK : Hid (∀ W' : World, Kept Z W' → (W'.cell? ⟨rb, 3, none⟩ = some (.slice (some ⟨b, 0, none⟩) ll cap) ∧ rb < W'.heap.size) ∧ W'.cell? ⟨rb, 2, none⟩ = some (.int .i64 c)) := fun W' k' => ⟨⟨(k'.cell (p := ⟨rb, 3, none⟩) hrl (fun e => e)).trans m3, Nat.lt_of_lt_of_le hrl k'.size⟩, (k'.cell (p := ⟨rb, 2, none⟩) hrl (fun e => e)).trans m2⟩
    obtain ⟨oa9, ocp9, eov9, -⟩ := row_shape (Fx.rows F1.out).2
    have EOV9 : Hid _ := eov9
    rw [eov9] at cj HAP
    clear eov9 F1
    generalize x.1.ts.length = on9 at *
    have HCJ : Hid (∀ W' : World, Kept Z W' → W'.cell? ⟨b, i * 10 + 9, none⟩ = some (.slice oa9 on9 ocp9)) := fun W' k' => (k'.cell (p := ⟨b, i * 10 + 9, none⟩) hbl (fun e => e)).trans cj
    clear cj m2 m3
    go_upto_region 36 with fail
    go_cut [216] (fun s216 wx => ∃ v9, Fx tg w wx rb n fl (rTick R c) av ev i (⟨⟨x.1.t.f0, x.1.t.f1, x.1.t.f2, x.1.t.f3, x.1.t.f4, x.1.t.f5, x.1.t.f6, x.1.t.ops ++ [(⟨3, k, false, ⟨#[]⟩⟩ : OpM)]⟩, x.1.st, x.1.ts ++ [c]⟩ : Rn) (v7, v9) ll ∧ wx.heap[g]? = some (stO ⟨4, se, gp, k, v⟩) ∧ wx.heap[ob]? = some (.cells #[.int .i64 3, .string k, .bool false, .string ⟨#[]⟩] 79 (0, 0)))
    case first =>
      refine wp_region_held_drew (S := fun W' => (W'.cell? ⟨rb, 3, none⟩ = some (.slice (some ⟨b, 0, none⟩) ll cap) ∧ rb < W'.heap.size) ∧ W'.cell? ⟨rb, 2, none⟩ = some (.int .i64 c)) (by kernel_rfl) (HBK.out _ (by (repeat (first | exact Same.refl _ _ | apply Same.alloc | apply Same.drew | apply Same.drewN)); done)) (fun hHeld => ?_)
      (try simp only [Act.put, List.getElem_toArray, List.getElem_cons_succ, List.getElem_cons_zero, List.setIfInBounds_toArray, List.set_cons_zero, List.set_cons_succ])
      refine wpAnyH_take (i := 0) (v := (.pointer (some ⟨rb, 0, none⟩))) rfl (by kernel_rfl) (by kernel_rfl) (by kernel_rfl) (fun _ _ _ h => h) (Or.inl ⟨by rfl, fun w hSw => by (dsimp only at hSw; go_simp)⟩) (by assumption) ?_
      (try simp only [Act.put, List.getElem_toArray, List.getElem_cons_zero, List.setIfInBounds_toArray, List.set_cons_zero, List.set_cons_succ])
      refine wpAnyH_take (i := 1) (v := (.pointer (some ⟨rb, 0, none⟩))) rfl (by kernel_rfl) (by kernel_rfl) (by kernel_rfl) (fun _ _ _ h => h) (Or.inl ⟨by rfl, fun w hSw => by (dsimp only at hSw; go_simp)⟩) (by assumption) ?_
      (try simp only [Act.put, List.getElem_toArray, List.getElem_cons_succ, List.getElem_cons_zero, List.setIfInBounds_toArray, List.set_cons_zero, List.set_cons_succ])
      refine wpAnyH_take (i := 2) (v := (.pointer (some ⟨rb, 3, none⟩))) rfl (by kernel_rfl) (by kernel_rfl) (by kernel_rfl) (fun _ _ _ h => h) (Or.inl ⟨by rfl, fun w hSw => by (dsimp only at hSw; go_simp)⟩) (by assumption) ?_
      (try simp only [Act.put, List.getElem_toArray, List.getElem_cons_succ, List.getElem_cons_zero, List.setIfInBounds_toArray, List.set_cons_zero, List.set_cons_succ])
      refine wpAnyH_take (i := 3) (v := (.slice (some ⟨b, 0, none⟩) ll cap)) rfl (by kernel_rfl) (by kernel_rfl) (by kernel_rfl) (fun _ _ _ h => h) (Or.inl ⟨by rfl, fun w hSw => by (dsimp only at hSw; go_simp)⟩) (by assumption) ?_
      (try simp only [Act.put, List.getElem_toArray, List.getElem_cons_succ, List.getElem_cons_zero, List.setIfInBounds_toArray, List.set_cons_zero, List.set_cons_succ])
      refine wpAnyH_take (i := 4) (v := (.int .i64 (i : Int))) rfl (by kernel_rfl) (by kernel_rfl) (by kernel_rfl) (fun _ _ _ h => h) (Or.inl ⟨by rfl, fun w hSw => by (dsimp only at hSw; go_simp)⟩) (by assumption) ?_
      (try simp only [Act.put, List.getElem_toArray, List.getElem_cons_succ, List.getElem_cons_zero, List.setIfInBounds_toArray, List.set_cons_zero, List.set_cons_succ])
      refine wpAnyH_take (i := 5) (v := (.pointer (some ⟨rb, 0, none⟩))) rfl (by kernel_rfl) (by kernel_rfl) (by kernel_rfl) (fun _ _ _ h => h) (Or.inl ⟨by rfl, fun w hSw => by (dsimp only at hSw; go_simp)⟩) (by assumption) ?_
      (try simp only [Act.put, List.getElem_toArray, List.getElem_cons_succ, List.getElem_cons_zero, List.setIfInBounds_toArray, List.set_cons_zero, List.set_cons_succ])
      refine wpAnyH_take (i := 6) (v := (.pointer (some ⟨rb, 0, none⟩))) rfl (by kernel_rfl) (by kernel_rfl) (by kernel_rfl) (fun _ _ _ h => h) (Or.inl ⟨by rfl, fun w hSw => by (dsimp only at hSw; go_simp)⟩) (by assumption) ?_
      (try simp only [Act.put, List.getElem_toArray, List.getElem_cons_succ, List.getElem_cons_zero, List.setIfInBounds_toArray, List.set_cons_zero, List.set_cons_succ])
      refine wpAnyH_take (i := 7) (v := (.pointer (some ⟨rb, 3, none⟩))) rfl (by kernel_rfl) (by kernel_rfl) (by kernel_rfl) (fun _ _ _ h => h) (Or.inl ⟨by rfl, fun w hSw => by (dsimp only at hSw; go_simp)⟩) (by assumption) ?_
      (try simp only [Act.put, List.getElem_toArray, List.getElem_cons_succ, List.getElem_cons_zero, List.setIfInBounds_toArray, List.set_cons_zero, List.set_cons_succ])
      refine wpAnyH_take (i := 8) (v := (.slice (some ⟨b, 0, none⟩) ll cap)) rfl (by kernel_rfl) (by kernel_rfl) (by kernel_rfl) (fun _ _ _ h => h) (Or.inl ⟨by rfl, fun w hSw => by (dsimp only at hSw; go_simp)⟩) (by assumption) ?_
      (try simp only [Act.put, List.getElem_toArray, List.getElem_cons_succ, List.getElem_cons_zero, List.setIfInBounds_toArray, List.set_cons_zero, List.set_cons_succ])
      refine wpAnyH_take (i := 9) (v := (.int .i64 (i : Int))) rfl (by kernel_rfl) (by kernel_rfl) (by kernel_rfl) (fun _ _ _ h => h) (Or.inl ⟨by rfl, fun w hSw => by (dsimp only at hSw; go_simp)⟩) (by assumption) ?_
      (try simp only [Act.put, List.getElem_toArray, List.getElem_cons_succ, List.getElem_cons_zero, List.setIfInBounds_toArray, List.set_cons_zero, List.set_cons_succ])
      refine wpAnyH_take (i := 10) (v := (.pointer (some ⟨b, i * 10, none⟩))) rfl (by kernel_rfl) (by kernel_rfl) (by kernel_rfl) (fun _ _ _ h => h) (Or.inl ⟨by rfl, fun w hSw => by (dsimp only at hSw; go_simp)⟩) (by assumption) ?_
      (try simp only [Act.put, List.getElem_toArray, List.getElem_cons_succ, List.getElem_cons_zero, List.setIfInBounds_toArray, List.set_cons_zero, List.set_cons_succ])
      refine wpAnyH_take (i := 11) (v := (.pointer (some ⟨b, i * 10 + 9, none⟩))) rfl (by kernel_rfl) (by kernel_rfl) (by kernel_rfl) (fun _ _ _ h => h) (Or.inl ⟨by rfl, fun w hSw => by (dsimp only at hSw; go_simp)⟩) (by assumption) ?_
      (try simp only [Act.put, List.getElem_toArray, List.getElem_cons_succ, List.getElem_cons_zero, List.setIfInBounds_toArray, List.set_cons_zero, List.set_cons_succ])
      refine wpAnyH_take (i := 13) (v := (.pointer (some ⟨rb, 0, none⟩))) rfl (by kernel_rfl) (by kernel_rfl) (by kernel_rfl) (fun _ _ _ h => h) (Or.inl ⟨by rfl, fun w hSw => by (dsimp only at hSw; go_simp)⟩) (by assumption) ?_
      (try simp only [Act.put, List.getElem_toArray, List.getElem_cons_succ, List.getElem_cons_zero, List.setIfInBounds_toArray, List.set_cons_zero, List.set_cons_succ])
      refine wpAnyH_take (i := 14) (v := (.pointer (some ⟨rb, 0, none⟩))) rfl (by kernel_rfl) (by kernel_rfl) (by kernel_rfl) (fun _ _ _ h => h) (Or.inl ⟨by rfl, fun w hSw => by (dsimp only at hSw; go_simp)⟩) (by assumption) ?_
      (try simp only [Act.put, List.getElem_toArray, List.getElem_cons_succ, List.getElem_cons_zero, List.setIfInBounds_toArray, List.set_cons_zero, List.set_cons_succ])
      refine wpAnyH_take (i := 15) (v := (.pointer (some ⟨rb, 2, none⟩))) rfl (by kernel_rfl) (by kernel_rfl) (by kernel_rfl) (fun _ _ _ h => h) (Or.inl ⟨by rfl, fun w hSw => by (dsimp only at hSw; go_simp)⟩) (by assumption) ?_
      (try simp only [Act.put, List.getElem_toArray, List.getElem_cons_succ, List.getElem_cons_zero, List.setIfInBounds_toArray, List.set_cons_zero, List.set_cons_succ])
      refine wpAnyH_take (i := 16) (v := (.int .i64 c)) rfl (by kernel_rfl) (by kernel_rfl) (by kernel_rfl) (fun _ _ _ h => h) (Or.inl ⟨by rfl, fun w hSw => by (dsimp only at hSw; go_simp)⟩) (by assumption) ?_
      (try simp only [Act.put, List.getElem_toArray, List.getElem_cons_succ, List.getElem_cons_zero, List.setIfInBounds_toArray, List.set_cons_zero, List.set_cons_succ])
      refine wpAnyH_ready (rs := [12, 17]) (by kernel_rfl) (by simp) (AllReadyH.cons rfl (fun K hK => ?_) (AllReadyH.cons rfl (fun K hK => ?_) AllReadyH.nil))
      · have cj := HCJ.out _ (show Kept Z _ from (by (repeat (first | exact Same.refl _ _ | apply Same.alloc | apply Same.drew | apply Same.drewN)); done))
        go_simp
        refine hK.out _ _ (HBK.out _ (by (repeat (first | exact Same.refl _ _ | apply Same.alloc | apply Same.drew | apply Same.drewN)); done)) (fun hHeld1 => ?_)
        clear hK K hHeld cj
        (try simp only [Act.put, List.getElem_toArray, List.getElem_cons_succ, List.getElem_cons_zero, List.setIfInBounds_toArray, List.set_cons_zero, List.set_cons_succ])
        refine wpAnyH_ready (rs := [17]) (by kernel_rfl) (by simp) (AllReadyH.cons rfl (fun K hK => ?_) AllReadyH.nil)
        have hHeld := hHeld1
        clear hHeld1
        go_simp
        refine hK.out _ _ (HBK.out _ (by (repeat (first | exact Same.refl _ _ | apply Same.alloc | apply Same.drew | apply Same.drewN)); done)) (fun hHeld1 => ?_)
        clear hK K hHeld
        (try simp only [Act.put, List.getElem_toArray, List.getElem_cons_succ, List.getElem_cons_zero, List.setIfInBounds_toArray, List.set_cons_zero, List.set_cons_succ])
        refine wpAnyH_ready (rs := [18]) (by kernel_rfl) (by simp) (AllReadyH.cons rfl (fun K hK => ?_) AllReadyH.nil)
        refine step_app rfl (.tmp 210) (.tmp 215) 107 rfl _ _ rfl rfl _ (HAP.out _ (by (repeat (first | exact Same.refl _ _ | apply Same.alloc | apply Same.drew | apply Same.drewN)); done) _ (by exact heap_new _ _)) ?_
        rintro v8 w8 ⟨hS8, ⟨c41, f41, b41, a4, n4, cp4, rfl⟩, ip1, ip2, ip3⟩
        have IP1 : Hid _ := ip1
        have IP2 : Hid _ := ip2
        have IP3 : Hid _ := ip3
        clear ip1 ip2 ip3
        refine hK.out _ _ hS8 (fun hHeld2 => ?_)
        clear hK K hHeld1 HAP HBK HCJ
        (try simp only [Act.put, List.getElem_toArray, List.getElem_cons_succ, List.getElem_cons_zero, List.setIfInBounds_toArray, List.set_cons_zero, List.set_cons_succ])
        refine wpAnyH_take (i := 19) (v := (.pointer (some ⟨b, i * 10, none⟩))) rfl (by kernel_rfl) (by kernel_rfl) (by kernel_rfl) (fun _ _ _ h => h) (Or.inl ⟨by rfl, fun w hSw => by (dsimp only at hSw; go_simp)⟩) (by assumption) ?_
        (try simp only [Act.put, List.getElem_toArray, List.getElem_cons_succ, List.getElem_cons_zero, List.setIfInBounds_toArray, List.set_cons_zero, List.set_cons_succ])
        refine wpAnyH_take (i := 20) (v := (.pointer (some ⟨b, i * 10 + 9, none⟩))) rfl (by kernel_rfl) (by kernel_rfl) (by kernel_rfl) (fun _ _ _ h => h) (Or.inl ⟨by rfl, fun w hSw => by (dsimp only at hSw; go_simp)⟩) (by assumption) ?_
        (try simp only [Act.put, List.getElem_toArray, List.getElem_cons_succ, List.getElem_cons_zero, List.setIfInBounds_toArray, List.set_cons_zero, List.set_cons_succ])
        refine wpAnyH_ready (rs := [21]) (by kernel_rfl) (by simp) (AllReadyH.cons rfl (fun K hK => ?_) AllReadyH.nil)
        go_simp
        refine hK.out _ _ (by obtain ⟨⟨h1, h2, h3, -⟩, -⟩ := Fx.cells IP1.out EA.out; exact ⟨⟨h3, h1⟩, h2⟩) (fun hHeld3 => ?_)
        clear hK K hHeld2
        (try simp only [Act.put, List.getElem_toArray, List.getElem_cons_succ, List.getElem_cons_zero, List.setIfInBounds_toArray, List.set_cons_zero, List.set_cons_succ])
        refine wpAnyH_done (by kernel_rfl) ?_ _
        go_wp2_with fail
        go_meet
        exact ⟨_, IP1.out, IP2.out, IP3.out⟩
      · go_simp
        refine hK.out _ _ (HBK.out _ (by (repeat (first | exact Same.refl _ _ | apply Same.alloc | apply Same.drew | apply Same.drewN)); done)) (fun hHeld1 => ?_)
        clear hK K hHeld
        (try simp only [Act.put, List.getElem_toArray, List.getElem_cons_succ, List.getElem_cons_zero, List.setIfInBounds_toArray, List.set_cons_zero, List.set_cons_succ])
        refine wpAnyH_ready (rs := [12]) (by kernel_rfl) (by simp) (AllReadyH.cons rfl (fun K hK => ?_) AllReadyH.nil)
        have hHeld := hHeld1
        clear hHeld1
        have cj := HCJ.out _ (show Kept Z _ from (by (repeat (first | exact Same.refl _ _ | apply Same.alloc | apply Same.drew | apply Same.drewN)); done))
        go_simp
        refine hK.out _ _ (HBK.out _ (by (repeat (first | exact Same.refl _ _ | apply Same.alloc | apply Same.drew | apply Same.drewN)); done)) (fun hHeld1 => ?_)
        clear hK K hHeld cj
        (try simp only [Act.put, List.getElem_toArray, List.getElem_cons_succ, List.getElem_cons_zero, List.setIfInBounds_toArray, List.set_cons_zero, List.set_cons_succ])
        refine wpAnyH_ready (rs := [18]) (by kernel_rfl) (by simp) (AllReadyH.cons rfl (fun K hK => ?_) AllReadyH.nil)
        refine step_app rfl (.tmp 210) (.tmp 215) 107 rfl _ _ rfl rfl _ (HAP.out _ (by (repeat (first | exact Same.refl _ _ | apply Same.alloc | apply Same.drew | apply Same.drewN)); done) _ (by exact heap_new _ _)) ?_
        rintro v8 w8 ⟨hS8, ⟨c41, f41, b41, a4, n4, cp4, rfl⟩, ip1, ip2, ip3⟩
        have IP1 : Hid _ := ip1
        have IP2 : Hid _ := ip2
        have IP3 : Hid _ := ip3
        clear ip1 ip2 ip3
        refine hK.out _ _ hS8 (fun hHeld2 => ?_)
        clear hK K hHeld1 HAP HBK HCJ
        (try simp only [Act.put, List.getElem_toArray, List.getElem_cons_succ, List.getElem_cons_zero, List.setIfInBounds_toArray, List.set_cons_zero, List.set_cons_succ])
        refine wpAnyH_take (i := 19) (v := (.pointer (some ⟨b, i * 10, none⟩))) rfl (by kernel_rfl) (by kernel_rfl) (by kernel_rfl) (fun _ _ _ h => h) (Or.inl ⟨by rfl, fun w hSw => by (dsimp only at hSw; go_simp)⟩) (by assumption) ?_
        (try simp only [Act.put, List.getElem_toArray, List.getElem_cons_succ, List.getElem_cons_zero, List.setIfInBounds_toArray, List.set_cons_zero, List.set_cons_succ])
        refine wpAnyH_take (i := 20) (v := (.pointer (some ⟨b, i * 10 + 9, none⟩))) rfl (by kernel_rfl) (by kernel_rfl) (by kernel_rfl) (fun _ _ _ h => h) (Or.inl ⟨by rfl, fun w hSw => by (dsimp only at hSw; go_simp)⟩) (by assumption) ?_
        (try simp only [Act.put, List.getElem_toArray, List.getElem_cons_succ, List.getElem_cons_zero, List.setIfInBounds_toArray, List.set_cons_zero, List.set_cons_succ])
        refine wpAnyH_ready (rs := [21]) (by kernel_rfl) (by simp) (AllReadyH.cons rfl (fun K hK => ?_) AllReadyH.nil)
        go_simp
        refine hK.out _ _ (by obtain ⟨⟨h1, h2, h3, -⟩, -⟩ := Fx.cells IP1.out EA.out; exact ⟨⟨h3, h1⟩, h2⟩) (fun hHeld3 => ?_)
        clear hK K hHeld2
        (try simp only [Act.put, List.getElem_toArray, List.getElem_cons_succ, List.getElem_cons_zero, List.setIfInBounds_toArray, List.set_cons_zero, List.set_cons_succ])
        refine wpAnyH_done (by kernel_rfl) ?_ _
        go_wp2_with fail
        go_meet
        exact ⟨_, IP1.out, IP2.out, IP3.out⟩
    case rest =>
      obtain ⟨v9, f2, gs2, gb2⟩ := hcut
      rename World => Z2
      have F2 : Hid _ := f2
      have GS2 : Hid _ := gs2
      have GB2 : Hid _ := gb2
      clear f2 gs2 gb2 HAP HGB HBK HCJ
      obtain ⟨c0, c1, c2, c3, c4⟩ := st_cells GS2.out
      have hg := lt_of_heap GS2.out
      simp only at c0 c1 c2 c3 c4
      go_wp2_with fail
      ((try simp only [Exit.inBlock, Exit.then]); refine bodyPost_ret (results_tmp4 rfl _ _ _) rfl ?_)
      exact ⟨rfl, HFIN.out _ _ _ (Fx.on F2.out (by (repeat (first | exact Same.refl _ _ | apply Same.alloc | apply Same.drew | apply Same.drewN)); done))⟩
end Go.Proofs.Ytbjmdpfoeeadeaa.Ch.Mc
