/- What is proved: Close of a writer with a block that is begun; the writer, its device and its space lie in memory, and the writer's numbers fit one another. -/
import Derived.Test.YtpjkmficpedmcaaSClose
namespace Go.Proofs.Ytpjkmficpedmcaa
open Go.RowKit

section
variable {o : Nat → Nat} {t : Nat} {w : World} {p : Pl} {sp wb : Nat} {s : WrS}
theorem close_end {W : World} {oW : Nat → Nat} {gv : Value} {a : Option Addr} {c rb : Nat} {F : Obj} (hi : s.fill.1 = 0) (hsz : s.fill.2.sz = s.sz) (h : WrT oW t W p sp wb s.fill.2 false (.slice a s.fill.2.bl.length c) gv) (ht : Tg t) (hst : Step (Wt t) o w oW W) (hrb : W.heap[rb]? = some (.cells #[.slice none 0 0, .int .i64 0] 39 (0, 0))) (hrw : w.heap.size ≤ rb) (W' : World)
    (eW : W' = ((((((W.alloc F).drew.setCell ⟨wb, 2, none⟩ (.slice none 0 0)).setCell ⟨wb, 3, none⟩ (.slice none 0 0)).setCell ⟨wb, 5, none⟩ (.bool true)).setCell ⟨rb, 0, none⟩ (.slice a s.fill.2.bl.length c)).setCell ⟨rb, 1, none⟩ (.int .i64 s.fill.2.sz))) :
    (loadVar 39 ⟨rb, 0, none⟩).run Try.prog W' = .ok (fileV a s.fill.2.bl.length c s.sz) W' ∧ CloseP o t w p sp wb s (.returned (.tuple #[fileV a s.fill.2.bl.length c s.sz, .int .i64 0])) W' := by
  obtain ⟨h1, o', h2, h3, h4, h5⟩ := close_fin h ht hst hrb hrw F W' eW
  rw [hsz] at h1
  exact ⟨loadVar_file h1, .inr ⟨hi, o', a, c, rfl, h2, h3, h4, h5⟩⟩

set_option maxRecDepth 100000 in
set_option maxHeartbeats 400000 in
theorem close_none {bv gv : Value} (h : WrT o t w p sp wb s false bv gv) (ht : Tg t) (hi : WI s) (hg : s.bg = []) : Calls Try.prog 10 #[.pointer (some ⟨wb, 0, none⟩)] w (CloseP o t w p sp wb s) := by
  obtain ⟨ba, bc, rfl, -⟩ := OwnI.nums h.wtr.brow
  obtain ⟨ga, gc, rfl, -⟩ := BytesAt.of_row h.wtr.grow
  have ef : s.fill = (0, s) := by unfold WrS.fill; rw [if_pos hg]
  have stA : Step (Wt t) o w (tagN w 0 o) (w.alloc (.cells #[.slice none 0 0, .int .i64 0] 39)) := ⟨(Same.refl _ w).alloc _, fun k hk => tagN_old hk⟩
  have stA' : Step (fun _ => False) o w (tagN w 0 o) (w.alloc (.cells #[.slice none 0 0, .int .i64 0] 39)) := ⟨(Same.refl _ w).alloc _, fun k hk => tagN_old hk⟩
  have hA := h.on stA' (fun h => h) (fun h => h) (fun h => h) (fun h => h)
  have HR : Hid _ := refuse_any hA.wtr
  rw [show refu s.br false = 0 by rw [hi.br]; rfl] at HR
  have hrbA := heap_new w (.cells #[.slice none 0 0, .int .i64 0] 39)
  have HF : Hid (∀ F W', W' = (((((((w.alloc (.cells #[.slice none 0 0, .int .i64 0] 39)).alloc F).drew.setCell ⟨wb, 2, none⟩ (.slice none 0 0)).setCell ⟨wb, 3, none⟩ (.slice none 0 0)).setCell ⟨wb, 5, none⟩ (.bool true)).setCell ⟨w.heap.size, 0, none⟩ (.slice ba s.bl.length bc)).setCell ⟨w.heap.size, 1, none⟩ (.int .i64 s.sz)) →
      (loadVar 39 ⟨w.heap.size, 0, none⟩).run Try.prog W' = .ok (fileV ba s.bl.length bc s.sz) W' ∧ CloseP o t w p sp wb s (.returned (.tuple #[fileV ba s.bl.length bc s.sz, .int .i64 0])) W') := fun F W' eW => by
    have := close_end (s := s) (F := F) (by rw [ef]) (by rw [ef]) (by rw [ef]; exact hA) ht stA hrbA (Nat.le_refl _) W' (by rw [ef]; exact eW)
    rw [ef] at this
    exact this
  have ho := hA.wtr.obj
  rw [hg] at ho
  have HRB : Hid _ := And.intro ho hrbA
  clear h hi hA ho hrbA stA stA' ef
  go_enter Try.func10, Try.ntmps10
  go_wp2_with fail
  refine Calls.mono HR.out ?_
  rintro x w0 ⟨rfl, hw0⟩
  obtain ⟨ho, hrbA⟩ := HRB.out
  rw [← hw0] at HF ho hrbA
  have hl0 := lt_of_heap ho
  have hlr := lt_of_heap hrbA
  obtain ⟨d2, d3, d4, d5⟩ : w0.cell? ⟨wb, 2, none⟩ = some (.slice ba s.bl.length bc) ∧ w0.cell? ⟨wb, 3, none⟩ = some (.slice ga 0 gc) ∧ w0.cell? ⟨wb, 4, none⟩ = some (.int .i64 s.sz) ∧ w0.cell? ⟨wb, 5, none⟩ = some (.bool false) := ⟨(cell_of ho 2).trans rfl, (cell_of ho 3).trans rfl, (cell_of ho 4).trans rfl, (cell_of ho 5).trans rfl⟩
  have f2 := frozen_of ho 2
  have f3 := frozen_of ho 3
  have f5 := frozen_of ho 5
  obtain ⟨r0, r1⟩ : w0.cell? ⟨w.heap.size, 0, none⟩ = some (.slice none 0 0) ∧ w0.cell? ⟨w.heap.size, 1, none⟩ = some (.int .i64 0) := ⟨(cell_of hrbA 0).trans rfl, (cell_of hrbA 1).trans rfl⟩
  have g0 := frozen_of hrbA 0
  have g1 := frozen_of hrbA 1
  have hne : w.heap.size ≠ wb := fun e => by
    rw [e, ho] at hrbA
    simp [wrO] at hrbA
  have hne' : wb ≠ w.heap.size := fun e => hne e.symm
  clear ho hrbA HRB hw0 HR
  go_upto_region 9 with fail
  go_cut [6] (fun s6 wx => s6 = .pointer (some ⟨w0.heap.size, 0, none⟩) ∧ wx = (w0.alloc (.cells #[.slice ba s.bl.length bc, .int .i64 s.sz] 39)).drew)
  case first =>
    clear HF
    go_region
    all_goals
      go_wp2_with fail
      go_meet
      exact ⟨rfl, rfl⟩
  case rest =>
    obtain ⟨rfl, hwc⟩ := hcut
    have kc : Kept w0 wc := by rw [hwc]; exact ((Same.refl _ w0).alloc _).drew
    have HF2 := HF.out (.cells #[.slice ba s.bl.length bc, .int .i64 s.sz] 39)
    rw [← hwc] at HF2
    have hF : wc.heap[w0.heap.size]? = some (.cells #[.slice ba s.bl.length bc, .int .i64 s.sz] 39 (0, 0)) := by rw [hwc]; exact heap_new w0 _
    have HF3 : Hid _ := HF2
    obtain ⟨e2, e3, e5, h0, h1⟩ : wc.cell? ⟨wb, 2, none⟩ = some (.slice ba s.bl.length bc) ∧ wc.cell? ⟨wb, 3, none⟩ = some (.slice ga 0 gc) ∧ wc.cell? ⟨wb, 5, none⟩ = some (.bool false) ∧ wc.cell? ⟨w.heap.size, 0, none⟩ = some (.slice none 0 0) ∧ wc.cell? ⟨w.heap.size, 1, none⟩ = some (.int .i64 0) :=
      ⟨(kc.cell (p := ⟨wb, 2, none⟩) hl0 (fun h => h)).trans d2, (kc.cell (p := ⟨wb, 3, none⟩) hl0 (fun h => h)).trans d3, (kc.cell (p := ⟨wb, 5, none⟩) hl0 (fun h => h)).trans d5, (kc.cell (p := ⟨w.heap.size, 0, none⟩) hlr (fun h => h)).trans r0, (kc.cell (p := ⟨w.heap.size, 1, none⟩) hlr (fun h => h)).trans r1⟩
    have hfz : ∀ (b j : Nat), b < w0.heap.size → w0.frozen? ⟨b, j, none⟩ = false → wc.frozen? ⟨b, j, none⟩ = false := fun b j hb hz => by
      rw [World.frozen?_of_block (w := w0) (w' := wc) (a := ⟨b, j, none⟩) (kc.block b hb (fun h => h))]
      exact hz
    have k2 := hfz wb 2 hl0 f2
    have k3 := hfz wb 3 hl0 f3
    have k5 := hfz wb 5 hl0 f5
    have kr0 := hfz w.heap.size 0 hlr g0
    have kr1 := hfz w.heap.size 1 hlr g1
    have F0 : wc.cell? ⟨w0.heap.size, 0, none⟩ = some (.slice ba s.bl.length bc) := (cell_of hF 0).trans rfl
    have F1 : wc.cell? ⟨w0.heap.size, 1, none⟩ = some (.int .i64 s.sz) := (cell_of hF 1).trans rfl
    obtain ⟨fb, efb⟩ : ∃ fb, fb = w0.heap.size := ⟨_, rfl⟩
    obtain ⟨rb, erb⟩ : ∃ rb, rb = w.heap.size := ⟨_, rfl⟩
    rw [← efb] at F0 F1 ⊢
    rw [← erb] at h0 h1 kr0 kr1 HF3 hne hne' hlr ⊢
    have n1 : fb ≠ wb := by omega
    have n2 : fb ≠ rb := by omega
    have n3 : wb ≠ fb := by omega
    have n4 : rb ≠ fb := by omega
    have hlc : wb < wc.heap.size := Nat.lt_of_lt_of_le hl0 kc.size
    have hlc2 : rb < wc.heap.size := Nat.lt_of_lt_of_le hlr kc.size
    clear HF HF2 hF hwc kc hfz d2 d3 d4 d5 f2 f3 f5 r0 r1 g0 g1 hl0 efb erb hlr
    go_wp2_with fail
    exact bodyPost_ret (results_ct (a := 2) (t := 39) (u := 3) rfl rfl (HF3.out _ rfl).1) rfl (HF3.out _ rfl).2
end
end Go.Proofs.Ytpjkmficpedmcaa

namespace Go.Proofs.Ytpjkmficpedmcaa
open Go.RowKit

set_option maxRecDepth 100000 in
theorem step_room {ops : Array Oper} {o : Oper} {a : Act} {w : World} {K : Act → World → Prop} {Q : Exit → Act → World → Prop} {E : Prop} (hg : o.guard = none) (x : Operand) (ho : o.op = .call { callee := .value (.func 20), args := #[x], argTypes := #[33] }) (v : Value) (hx : a.eval x = v) (R : Value → World → Prop)
    (hC : Calls Try.prog 20 #[v] w fun e w' => ∃ u, e = .returned u ∧ R u w') (h : ∀ u w', R u w' → K (a.put o.dst u) w') : if Region.wanted o (yielded ops a.tmps) = true then Oper.wp Try.prog o a w K Q else E := by
  have hw : Region.wanted o (yielded ops a.tmps) = true := by simp [Region.wanted, hg]
  rw [if_pos hw]
  unfold Oper.wp
  simp only [execOp, ho, resolve, invoke, Sem.run_bind, List.map_toArray, List.map_cons, List.map_nil, hx]
  go_simp
  refine Calls.mono hC ?_
  rintro e w' ⟨u, rfl, hR⟩
  exact h u w' hR
section
variable {o : Nat → Nat} {t : Nat} {w : World} {p : Pl} {sp wb : Nat} {s : WrS}
set_option maxRecDepth 100000 in
set_option maxHeartbeats 1600000 in
theorem close_some {bv gv : Value} (h : WrT o t w p sp wb s false bv gv) (ht : Tg t) (hi : WI s) (hg : s.bg ≠ []) (hk : s.m.k + 10 < 4611686018427387904) (hz : s.sz ≤ 549755813888) : Calls Try.prog 10 #[.pointer (some ⟨wb, 0, none⟩)] w (CloseP o t w p sp wb s) := by
  obtain ⟨ba, bc, rfl, -⟩ := OwnI.nums h.wtr.brow
  obtain ⟨ga, gc, rfl, -⟩ := BytesAt.of_row h.wtr.grow
  have hB := h.dv.dv.good.b2
  have hlt := hi.lt
  have hpos := List.length_pos_iff.2 hg
  obtain ⟨z, ez⟩ : ∃ z, z = s.m.B - s.bg.length := ⟨_, rfl⟩
  obtain ⟨s1, es1⟩ : ∃ s1 : WrS, s1 = { s with bg := s.bg ++ List.replicate z 0 } := ⟨_, rfl⟩
  have ef : s.fill = s1.flush := by unfold WrS.fill; rw [if_neg hg, es1, ez]
  have stA : Step (Wt t) o w (tagN w (t + 3) o) (w.alloc (.cells #[.slice none 0 0, .int .i64 0] 39)) := ⟨(Same.refl _ w).alloc _, fun k hk => tagN_old hk⟩
  have stA' : Step (fun _ => False) o w (tagN w (t + 3) o) (w.alloc (.cells #[.slice none 0 0, .int .i64 0] 39)) := ⟨(Same.refl _ w).alloc _, fun k hk => tagN_old hk⟩
  have hA := h.on stA' (fun h => h) (fun h => h) (fun h => h) (fun h => h)
  have HR : Hid _ := refuse_any hA.wtr
  rw [show refu s.br false = 0 by rw [hi.br]; rfl] at HR
  have hrbA := heap_new w (.cells #[.slice none 0 0, .int .i64 0] 39)
  have HH : Hid _ := And.intro stA (And.intro hA hrbA)
  have HI : Hid _ := hi
  have HEF : Hid _ := And.intro ef (And.intro es1 ez)
  have hzb : s.bg.length + z ≤ 1024 := by omega
  have hz0 : 0 < z := by omega
  clear h hi hA hrbA stA stA' ef es1 hg ez hlt
  go_enter Try.func10, Try.ntmps10
  go_wp2_with fail
  refine Calls.mono HR.out ?_
  rintro x w0 ⟨rfl, hw0⟩
  obtain ⟨stA, hA, hrbA⟩ := HH.out
  rw [← hw0] at stA hA hrbA
  have hl0 := lt_of_heap hA.wtr.obj
  have d3 : w0.cell? ⟨wb, 3, none⟩ = some (.slice ga s.bg.length gc) := (cell_of hA.wtr.obj 3).trans rfl
  have hp' : decide ((s.bg.length : Int) > 0) = true := by simpa using hpos
  have HRM : Hid (∀ W, Kept w0 W → Calls Try.prog 20 #[.pointer (some ⟨wb, 0, none⟩)] W fun x w' => ∃ u, x = .returned u ∧ u = .int .i64 (z : Int) ∧ Kept W w') := fun W k => by
    refine Calls.mono ?_ (fun x w' (hx : x = .returned (.int .i64 (z : Int)) ∧ Kept W w') => ⟨_, hx.1, rfl, hx.2⟩)
    have := room_any (hA.dv.dv.kept0 k) (hA.kept k).wtr (by have := HI.out.lt; omega)
    rw [← HEF.out.2.2] at this
    exact this
  have HAPP : Hid (∀ W, Kept w0 W → ∀ ty, ∃ v' w', (Builtin.append_ #[22, 3] ty #[.slice ga s.bg.length gc, .int .i64 (z : Int)]).run Try.prog W = .ok v' w' ∧ Kept w0 W ∧ AppB 0 (.slice ga s.bg.length gc) W (s.bg ++ List.replicate z 0) v' w') := fun W k ty => by
    obtain ⟨v', w', r1, r2⟩ := app_zeros8 (hA.kept k).wtr.grow hpos hzb hz0 ty
    exact ⟨v', w', r1, k, r2⟩
  have HOB : Hid (∀ W v3 w3, Kept w0 W → AppB 0 (.slice ga s.bg.length gc) W (s.bg ++ List.replicate z 0) v3 w3 → _) := fun W v3 w3 (k : Kept w0 W) (hap : AppB 0 (.slice ga s.bg.length gc) W (s.bg ++ List.replicate z 0) v3 w3) => grow_done hA ht k hap
  have H0 : Hid _ := And.intro stA (And.intro hA (And.intro hrbA hw0))
  clear stA hA hrbA hw0 HH HR hzb hz0
  go_upto_region 5 with fail
  go_cut [19] (fun _ wx => ∃ W v3 w3, Kept w0 W ∧ AppB 0 (.slice ga s.bg.length gc) W (s.bg ++ List.replicate z 0) v3 w3 ∧ wx = w3.setCell ⟨wb, 3, none⟩ v3)
  case first =>
    go_region_law (first
      | (refine step_room rfl (.tmp 24) rfl (.pointer (some ⟨wb, 0, none⟩)) rfl _ (HRM.out _ ((Same.refl _ w0).drew)) ?_; rintro u w1 ⟨rfl, k1⟩; have y3 : w1.cell? ⟨wb, 3, none⟩ = some (.slice ga s.bg.length gc) := (k1.cell (p := ⟨wb, 3, none⟩) hl0 (fun h => h)).trans d3; have hl1 : wb < w1.heap.size := Nat.lt_of_lt_of_le hl0 k1.size)
      | (refine step_app2 rfl (.tmp 23) (.tmp 25) 22 3 rfl (.slice ga s.bg.length gc) (.int .i64 (z : Int)) rfl rfl _ (HAPP.out w1 (Same.trans' ((Same.refl _ w0).drew) k1)) ?_; rintro v3 w3 ⟨kx, hap⟩; obtain ⟨va, vc, rfl, -⟩ := BytesAt.of_row hap.1; have ho3 := (HOB.out _ _ _ kx hap).1; have hl4 := lt_of_heap ho3; have z3 : w3.cell? ⟨wb, 3, none⟩ = some (.slice ga s.bg.length gc) := (cell_of ho3 3).trans rfl; have f3 := frozen_of ho3 3; have HAP : Hid _ := And.intro kx hap; clear hap ho3 kx))
    all_goals
      go_wp2_with fail
      go_meet
      exact ⟨_, _, w3, HAP.out.1, HAP.out.2, by first | rfl | simp⟩
  case rest =>
    obtain ⟨W, v3, w3, kx, hap, ew⟩ := hcut
    obtain ⟨ho3, o5, st5, h5⟩ := HOB.out _ _ _ kx hap
    rw [← ew] at st5 h5
    obtain ⟨stA, hA, hrbA, hw0⟩ := H0.out
    obtain ⟨ef, es1, ez⟩ := HEF.out
    have hi := HI.out
    have hsn : s.bl ≠ [] := hi.ne (List.length_pos_iff.1 hpos)
    rw [← es1] at h5
    have e1 : s1.bl = s.bl := by rw [es1]
    have e2 : s1.m = s.m := by rw [es1]
    have e3 : s1.sz = s.sz := by rw [es1]
    have HFL := flush_any h5 ht (by rw [e1]; exact ⟨hi.mem, by have := hi.len; omega⟩) (by rw [e1]; exact hsn) (by rw [e2]; omega)
    rw [← ef] at HFL
    have hfz : s.fill.1 = 0 → s.fill.2.sz = s.sz := fun e => by
      rw [ef] at e ⊢
      unfold WrS.flush at e ⊢
      split at e
      · next h1 => exact absurd e h1
      · next h1 => rw [if_neg h1]; exact e3
    have hfb : s.fill.1 = 0 → s.fill.2.bg = [] := fun e => by
      rw [ef] at e ⊢
      unfold WrS.flush at e ⊢
      split at e
      · next h1 => exact absurd e h1
      · next h1 => rw [if_neg h1]
    have hrb5 : ∀ (o7 : Nat → Nat) (w7 : World), Step (Wt t) o5 wc o7 w7 → w7.heap[w.heap.size]? = some (.cells #[.slice none 0 0, .int .i64 0] 39 (0, 0)) ∧ o7 w.heap.size = t + 3 ∧ Step (Wt t) o w o7 w7 := fun o7 w7 st7 => by
      have st07 := st5.trans st7
      have hl := lt_of_heap hrbA
      have htg : tagN w (t + 3) o w.heap.size = t + 3 := tagN_new (Nat.le_refl _)
      refine ⟨(st07.same.block _ hl ?_).trans hrbA, (st07.tag _ hl).trans htg, stA.trans st07⟩
      rw [htg]
      rintro (e | e | e) <;> omega
    have HRB : Hid _ := hrb5
    have HFZ : Hid _ := And.intro hfz hfb
    obtain ⟨e7, s2, e77⟩ : ∃ e7 s2, s.fill = (e7, s2) := ⟨_, _, rfl⟩
    have HE7 : Hid _ := e77
    rw [e77] at HFL
    simp only at HFL
    have HFL' : Hid _ := HFL
    clear HFL hrb5 hfz hfb st5 h5 ho3 hap kx ew stA hA hrbA hw0 ef es1 ez hi hsn e1 e2 e3 HOB HAPP HRM H0 HEF e77
    by_cases he : e7 = 0
    · subst he
      go_wp2_with fail
      refine Calls.mono HFL'.out ?_
      rintro x w7 ⟨rfl, o7, bv7, gv7, st7, h7⟩
      obtain ⟨ba7, bc7, rfl, -⟩ := OwnI.nums h7.wtr.brow
      obtain ⟨ga7, gc7, rfl, -⟩ := BytesAt.of_row h7.wtr.grow
      obtain ⟨hrbA, htg, stw⟩ := HRB.out o7 w7 st7
      have hz7 := HFZ.out.1 (by rw [HE7.out])
      have hb7 := HFZ.out.2 (by rw [HE7.out])
      rw [HE7.out] at hz7 hb7
      simp only at hz7 hb7
      have HF : Hid (∀ F W', W' = (((((w7.alloc F).drew.setCell ⟨wb, 2, none⟩ (.slice none 0 0)).setCell ⟨wb, 3, none⟩ (.slice none 0 0)).setCell ⟨wb, 5, none⟩ (.bool true)).setCell ⟨w.heap.size, 0, none⟩ (.slice ba7 s2.bl.length bc7)).setCell ⟨w.heap.size, 1, none⟩ (.int .i64 s2.sz) →
          (loadVar 39 ⟨w.heap.size, 0, none⟩).run Try.prog W' = .ok (fileV ba7 s2.bl.length bc7 s.sz) W' ∧ CloseP o t w p sp wb s (.returned (.tuple #[fileV ba7 s2.bl.length bc7 s.sz, .int .i64 0])) W') := fun F W' eW => by
        have := close_end (s := s) (F := F) (by rw [HE7.out]) (by rw [HE7.out]; exact hz7) (by rw [HE7.out]; exact h7) ht stw hrbA (Nat.le_refl _) W' (by rw [HE7.out]; exact eW)
        rw [HE7.out] at this
        exact this
      have ho := h7.wtr.obj
      rw [hb7] at ho
      have hl0 := lt_of_heap ho
      have hlr := lt_of_heap hrbA
      obtain ⟨d2, d3, d4, d5⟩ : w7.cell? ⟨wb, 2, none⟩ = some (.slice ba7 s2.bl.length bc7) ∧ w7.cell? ⟨wb, 3, none⟩ = some (.slice ga7 0 gc7) ∧ w7.cell? ⟨wb, 4, none⟩ = some (.int .i64 s2.sz) ∧ w7.cell? ⟨wb, 5, none⟩ = some (.bool false) := ⟨(cell_of ho 2).trans rfl, (cell_of ho 3).trans rfl, (cell_of ho 4).trans rfl, (cell_of ho 5).trans rfl⟩
      have f2 := frozen_of ho 2
      have f3 := frozen_of ho 3
      have f5 := frozen_of ho 5
      obtain ⟨r0, r1⟩ : w7.cell? ⟨w.heap.size, 0, none⟩ = some (.slice none 0 0) ∧ w7.cell? ⟨w.heap.size, 1, none⟩ = some (.int .i64 0) := ⟨(cell_of hrbA 0).trans rfl, (cell_of hrbA 1).trans rfl⟩
      have g0 := frozen_of hrbA 0
      have g1 := frozen_of hrbA 1
      have hne : w.heap.size ≠ wb := fun e => by
        rw [e, ho] at hrbA
        simp [wrO] at hrbA
      have hne' : wb ≠ w.heap.size := fun e => hne e.symm
      clear ho hrbA HRB HFZ HE7 hz7 hb7 st7 h7 htg stw
      go_upto_region 9 with fail
      go_cut [6] (fun s6 wx => s6 = .pointer (some ⟨w7.heap.size, 0, none⟩) ∧ wx = (w7.alloc (.cells #[.slice ba7 s2.bl.length bc7, .int .i64 s2.sz] 39)).drew)
      case first =>
        clear HF
        go_region
        all_goals
          go_wp2_with fail
          go_meet
          exact ⟨rfl, rfl⟩
      case rest =>
        obtain ⟨rfl, hwc⟩ := hcut
        have kc : Kept w7 wc := by rw [hwc]; exact ((Same.refl _ w7).alloc _).drew
        have HF2 := HF.out (.cells #[.slice ba7 s2.bl.length bc7, .int .i64 s2.sz] 39)
        rw [← hwc] at HF2
        have hF : wc.heap[w7.heap.size]? = some (.cells #[.slice ba7 s2.bl.length bc7, .int .i64 s2.sz] 39 (0, 0)) := by rw [hwc]; exact heap_new w7 _
        have HF3 : Hid _ := HF2
        obtain ⟨e2, e3, e5, h0, h1⟩ : wc.cell? ⟨wb, 2, none⟩ = some (.slice ba7 s2.bl.length bc7) ∧ wc.cell? ⟨wb, 3, none⟩ = some (.slice ga7 0 gc7) ∧ wc.cell? ⟨wb, 5, none⟩ = some (.bool false) ∧ wc.cell? ⟨w.heap.size, 0, none⟩ = some (.slice none 0 0) ∧ wc.cell? ⟨w.heap.size, 1, none⟩ = some (.int .i64 0) :=
          ⟨(kc.cell (p := ⟨wb, 2, none⟩) hl0 (fun h => h)).trans d2, (kc.cell (p := ⟨wb, 3, none⟩) hl0 (fun h => h)).trans d3, (kc.cell (p := ⟨wb, 5, none⟩) hl0 (fun h => h)).trans d5, (kc.cell (p := ⟨w.heap.size, 0, none⟩) hlr (fun h => h)).trans r0, (kc.cell (p := ⟨w.heap.size, 1, none⟩) hlr (fun h => h)).trans r1⟩
        have hfz : ∀ (b j : Nat), b < w7.heap.size → w7.frozen? ⟨b, j, none⟩ = false → wc.frozen? ⟨b, j, none⟩ = false := fun b j hb hz => by
          rw [World.frozen?_of_block (w := w7) (w' := wc) (a := ⟨b, j, none⟩) (kc.block b hb (fun h => h))]
          exact hz
        have k2 := hfz wb 2 hl0 f2
        have k3 := hfz wb 3 hl0 f3
        have k5 := hfz wb 5 hl0 f5
        have kr0 := hfz w.heap.size 0 hlr g0
        have kr1 := hfz w.heap.size 1 hlr g1
        have F0 : wc.cell? ⟨w7.heap.size, 0, none⟩ = some (.slice ba7 s2.bl.length bc7) := (cell_of hF 0).trans rfl
        have F1 : wc.cell? ⟨w7.heap.size, 1, none⟩ = some (.int .i64 s2.sz) := (cell_of hF 1).trans rfl
        obtain ⟨fb, efb⟩ : ∃ fb, fb = w7.heap.size := ⟨_, rfl⟩
        obtain ⟨rb, erb⟩ : ∃ rb, rb = w.heap.size := ⟨_, rfl⟩
        rw [← efb] at F0 F1 ⊢
        rw [← erb] at h0 h1 kr0 kr1 HF3 hne hne' hlr ⊢
        have n1 : fb ≠ wb := by omega
        have n2 : fb ≠ rb := by omega
        have n3 : wb ≠ fb := by omega
        have n4 : rb ≠ fb := by omega
        have hlc : wb < wc.heap.size := Nat.lt_of_lt_of_le hl0 kc.size
        have hlc2 : rb < wc.heap.size := Nat.lt_of_lt_of_le hlr kc.size
        clear HF HF2 hF hwc kc hfz d2 d3 d4 d5 f2 f3 f5 r0 r1 g0 g1 hl0 efb erb hlr
        go_wp2_with fail
        exact bodyPost_ret (results_ct (a := 2) (t := 39) (u := 3) rfl rfl (HF3.out _ rfl).1) rfl (HF3.out _ rfl).2
    · have he' : (e7 != 0) = true := by simpa using he
      have H7E : Hid _ := he
      clear he
      go_wp2_with fail
      refine Calls.mono HFL'.out ?_
      rintro x w7 ⟨rfl, o7, bv7, gv7, st7, h7⟩
      obtain ⟨hrbA, htg, stw⟩ := HRB.out o7 w7 st7
      have hlr := lt_of_heap hrbA
      obtain ⟨r0, r1⟩ : w7.cell? ⟨w.heap.size, 0, none⟩ = some (.slice none 0 0) ∧ w7.cell? ⟨w.heap.size, 1, none⟩ = some (.int .i64 0) := ⟨(cell_of hrbA 0).trans rfl, (cell_of hrbA 1).trans rfl⟩
      have g0 := frozen_of hrbA 0
      have g1 := frozen_of hrbA 1
      have HF : Hid (∀ W', W' = (w7.setCell ⟨w.heap.size, 0, none⟩ (.slice none 0 0)).setCell ⟨w.heap.size, 1, none⟩ (.int .i64 0) →
          (loadVar 39 ⟨w.heap.size, 0, none⟩).run Try.prog W' = .ok (fileV none 0 0 0) W' ∧ CloseP o t w p sp wb s (.returned (.tuple #[fileV none 0 0 0, .int .i64 e7])) W') := fun W' eW => by
        have s8 : Same (fun k => k = w.heap.size) w7 W' := by
          rw [eW]
          exact Same.setCell (Same.setCell (S := fun k => k = w.heap.size) (Same.refl _ _) _ (.inr rfl) _) _ (.inr rfl) _
        have st8 : Step (fun n => n = t + 3) o7 w7 o7 W' := ⟨s8.mono fun k _ e => (by show o7 k = t + 3; rw [e]; exact htg), fun _ _ => rfl⟩
        have hob : W'.heap[w.heap.size]? = some (.cells #[.slice none 0 0, .int .i64 0] 39 (0, 0)) := by
          rw [eW]
          exact setCell_at (setCell_at hrbA 0 _) 1 _
        refine ⟨loadVar_file hob, .inl ⟨by rw [HE7.out]; exact H7E.out, by rw [HE7.out], o7, bv7, gv7, ⟨stw.same.trans s8 fun i hi e => ?_, stw.tag⟩, ?_⟩⟩
        · omega
        · rw [HE7.out]
          exact h7.on st8 (by omega) (by omega) (by omega) (by omega)
      clear hrbA HRB HFZ HE7 st7 h7 htg stw
      go_wp2_with fail
      exact bodyPost_ret (results_ct (a := 2) (t := 39) (u := 3) rfl rfl (HF.out _ rfl).1) rfl (HF.out _ rfl).2
end
end Go.Proofs.Ytpjkmficpedmcaa
