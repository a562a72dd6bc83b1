/- What is proved: Close of a writer answers the file, or the device's error; the writer, its device and its space lie in memory, and the writer's numbers fit one another. -/
import Derived.Test.YtemfeaooenaelaaSClose
namespace Go.Proofs.Ytemfeaooenaelaa
open Go.RowKit

section
variable {o : Nat → Nat} {t : Nat} {w : World} {p : Pl} {sp wb : Nat} {s : WrS}
theorem close_end {W : World} {oW : Nat → Nat} {gv : Value} {a : Option Addr} {c rb : Nat} {F : Obj} (hi : s.fill.1 = 0) (hsz : s.fill.2.sz = s.sz) (h : WrT oW t W p sp wb s.fill.2 false (.slice a s.fill.2.bl.length c) gv) (ht : Tg t) (hst : Step (Wt t) o w oW W) (hrb : W.heap[rb]? = some (.cells #[.slice none 0 0, .int .i64 0] 60 (0, 0))) (hrw : w.heap.size ≤ rb) (W' : World)
    (eW : W' = ((((((W.alloc F).drew.setCell ⟨wb, 2, none⟩ (.slice none 0 0)).setCell ⟨wb, 3, none⟩ (.slice none 0 0)).setCell ⟨wb, 5, none⟩ (.bool true)).setCell ⟨rb, 0, none⟩ (.slice a s.fill.2.bl.length c)).setCell ⟨rb, 1, none⟩ (.int .i64 s.fill.2.sz))) :
    (loadVar 60 ⟨rb, 0, none⟩).run Try.prog W' = .ok (fileV a s.fill.2.bl.length c s.sz) W' ∧ CloseP o t w p sp wb s (.returned (.tuple #[fileV a s.fill.2.bl.length c s.sz, .int .i64 0])) W' := by
  obtain ⟨h1, o', h2, h3, h4, h5⟩ := close_fin h ht hst hrb hrw F W' eW
  rw [hsz] at h1
  exact ⟨loadVar_file h1, .inr ⟨hi, o', a, c, rfl, h2, h3, h4, h5⟩⟩

set_option maxRecDepth 100000 in
set_option maxHeartbeats 400000 in
theorem close_none {bv gv : Value} (h : WrT o t w p sp wb s false bv gv) (ht : Tg t) (hi : WI s) (hg : s.bg = []) : Calls Try.prog 25 #[.pointer (some ⟨wb, 0, none⟩)] w (CloseP o t w p sp wb s) := by
  obtain ⟨ba, bc, rfl, -⟩ := OwnI.nums h.wtr.brow
  obtain ⟨ga, gc, rfl, -⟩ := BytesAt.of_row h.wtr.grow
  have ef : s.fill = (0, s) := by unfold WrS.fill; rw [if_pos hg]
  have stA : Step (Wt t) o w (tagN w 0 o) (w.alloc (.cells #[.slice none 0 0, .int .i64 0] 60)) := ⟨(Same.refl _ w).alloc _, fun k hk => tagN_old hk⟩
  have stA' : Step (fun _ => False) o w (tagN w 0 o) (w.alloc (.cells #[.slice none 0 0, .int .i64 0] 60)) := ⟨(Same.refl _ w).alloc _, fun k hk => tagN_old hk⟩
  have hA := h.on stA' (fun h => h) (fun h => h) (fun h => h) (fun h => h)
  have HR : Hid _ := refuse_any hA.wtr
  rw [show refu s.br false = 0 by rw [hi.br]; rfl] at HR
  have hrbA := heap_new w (.cells #[.slice none 0 0, .int .i64 0] 60)
  have HF : Hid (∀ F W', W' = (((((((w.alloc (.cells #[.slice none 0 0, .int .i64 0] 60)).alloc F).drew.setCell ⟨wb, 2, none⟩ (.slice none 0 0)).setCell ⟨wb, 3, none⟩ (.slice none 0 0)).setCell ⟨wb, 5, none⟩ (.bool true)).setCell ⟨w.heap.size, 0, none⟩ (.slice ba s.bl.length bc)).setCell ⟨w.heap.size, 1, none⟩ (.int .i64 s.sz)) →
      (loadVar 60 ⟨w.heap.size, 0, none⟩).run Try.prog W' = .ok (fileV ba s.bl.length bc s.sz) W' ∧ CloseP o t w p sp wb s (.returned (.tuple #[fileV ba s.bl.length bc s.sz, .int .i64 0])) W') := fun F W' eW => by
    have := close_end (s := s) (F := F) (by rw [ef]) (by rw [ef]) (by rw [ef]; exact hA) ht stA hrbA (Nat.le_refl _) W' (by rw [ef]; exact eW)
    rw [ef] at this
    exact this
  have ho := hA.wtr.obj
  rw [hg] at ho
  have HRB : Hid _ := And.intro ho hrbA
  clear h hi hA ho hrbA stA stA' ef
  go_enter Try.func25, Try.ntmps25
  go_wp2_with fail
  refine Calls.mono HR.out ?_
  rintro x w0 ⟨rfl, hw0⟩
  obtain ⟨ho, hrbA⟩ := HRB.out
  rw [← hw0] at HF ho hrbA
  have hl0 := lt_of_heap ho
  have hlr := lt_of_heap hrbA
  obtain ⟨d2, d3, d4, d5⟩ : w0.cell? ⟨wb, 2, none⟩ = some (.slice ba s.bl.length bc) ∧ w0.cell? ⟨wb, 3, none⟩ = some (.slice ga 0 gc) ∧ w0.cell? ⟨wb, 4, none⟩ = some (.int .i64 s.sz) ∧ w0.cell? ⟨wb, 5, none⟩ = some (.bool false) := ⟨(cell_of ho 2).trans rfl, (cell_of ho 3).trans rfl, (cell_of ho 4).trans rfl, (cell_of ho 5).trans rfl⟩
  have f2 := frozen_of ho 2
  have f3 := frozen_of ho 3
  have f5 := frozen_of ho 5
  obtain ⟨r0, r1⟩ : w0.cell? ⟨w.heap.size, 0, none⟩ = some (.slice none 0 0) ∧ w0.cell? ⟨w.heap.size, 1, none⟩ = some (.int .i64 0) := ⟨(cell_of hrbA 0).trans rfl, (cell_of hrbA 1).trans rfl⟩
  have g0 := frozen_of hrbA 0
  have g1 := frozen_of hrbA 1
  have hne : w.heap.size ≠ wb := fun e => by
    rw [e, ho] at hrbA
    simp [wrO] at hrbA
  have hne' : wb ≠ w.heap.size := fun e => hne e.symm
  clear ho hrbA HRB hw0 HR
  go_upto_region 9 with fail
  go_cut [6] (fun s6 wx => s6 = .pointer (some ⟨w0.heap.size, 0, none⟩) ∧ wx = (w0.alloc (.cells #[.slice ba s.bl.length bc, .int .i64 s.sz] 60)).drew)
  case first =>
    clear HF
    go_region
    all_goals
      go_wp2_with fail
      go_meet
      exact ⟨rfl, rfl⟩
  case rest =>
    obtain ⟨rfl, hwc⟩ := hcut
    have kc : Kept w0 wc := by rw [hwc]; exact ((Same.refl _ w0).alloc _).drew
    have HF2 := HF.out (.cells #[.slice ba s.bl.length bc, .int .i64 s.sz] 60)
    rw [← hwc] at HF2
    have hF : wc.heap[w0.heap.size]? = some (.cells #[.slice ba s.bl.length bc, .int .i64 s.sz] 60 (0, 0)) := by rw [hwc]; exact heap_new w0 _
    have HF3 : Hid _ := HF2
    obtain ⟨e2, e3, e5, h0, h1⟩ : wc.cell? ⟨wb, 2, none⟩ = some (.slice ba s.bl.length bc) ∧ wc.cell? ⟨wb, 3, none⟩ = some (.slice ga 0 gc) ∧ wc.cell? ⟨wb, 5, none⟩ = some (.bool false) ∧ wc.cell? ⟨w.heap.size, 0, none⟩ = some (.slice none 0 0) ∧ wc.cell? ⟨w.heap.size, 1, none⟩ = some (.int .i64 0) :=
      ⟨(kc.cell (p := ⟨wb, 2, none⟩) hl0 (fun h => h)).trans d2, (kc.cell (p := ⟨wb, 3, none⟩) hl0 (fun h => h)).trans d3, (kc.cell (p := ⟨wb, 5, none⟩) hl0 (fun h => h)).trans d5, (kc.cell (p := ⟨w.heap.size, 0, none⟩) hlr (fun h => h)).trans r0, (kc.cell (p := ⟨w.heap.size, 1, none⟩) hlr (fun h => h)).trans r1⟩
    have hfz : ∀ (b j : Nat), b < w0.heap.size → w0.frozen? ⟨b, j, none⟩ = false → wc.frozen? ⟨b, j, none⟩ = false := fun b j hb hz => by
      rw [World.frozen?_of_block (w := w0) (w' := wc) (a := ⟨b, j, none⟩) (kc.block b hb (fun h => h))]
      exact hz
    have k2 := hfz wb 2 hl0 f2
    have k3 := hfz wb 3 hl0 f3
    have k5 := hfz wb 5 hl0 f5
    have kr0 := hfz w.heap.size 0 hlr g0
    have kr1 := hfz w.heap.size 1 hlr g1
    have F0 : wc.cell? ⟨w0.heap.size, 0, none⟩ = some (.slice ba s.bl.length bc) := (cell_of hF 0).trans rfl
    have F1 : wc.cell? ⟨w0.heap.size, 1, none⟩ = some (.int .i64 s.sz) := (cell_of hF 1).trans rfl
    obtain ⟨fb, efb⟩ : ∃ fb, fb = w0.heap.size := ⟨_, rfl⟩
    obtain ⟨rb, erb⟩ : ∃ rb, rb = w.heap.size := ⟨_, rfl⟩
    rw [← efb] at F0 F1 ⊢
    rw [← erb] at h0 h1 kr0 kr1 HF3 hne hne' hlr ⊢
    have n1 : fb ≠ wb := by omega
    have n2 : fb ≠ rb := by omega
    have n3 : wb ≠ fb := by omega
    have n4 : rb ≠ fb := by omega
    have hlc : wb < wc.heap.size := Nat.lt_of_lt_of_le hl0 kc.size
    have hlc2 : rb < wc.heap.size := Nat.lt_of_lt_of_le hlr kc.size
    clear HF HF2 hF hwc kc hfz d2 d3 d4 d5 f2 f3 f5 r0 r1 g0 g1 hl0 efb erb hlr
    go_wp2_with fail
    exact bodyPost_ret (results_ct (a := 2) (t := 60) (u := 3) rfl rfl (HF3.out _ rfl).1) rfl (HF3.out _ rfl).2
end
end Go.Proofs.Ytemfeaooenaelaa
