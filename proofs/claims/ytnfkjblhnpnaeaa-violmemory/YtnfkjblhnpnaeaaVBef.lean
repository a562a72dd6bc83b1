/- What is proved: the document's Before tells whether one violation comes before another; for every two, no condition. -/
import Derived.Test.YtnfkjblhnpnaeaaVTop
namespace Go.Proofs.Ytnfkjblhnpnaeaa
open Go.RowKit

abbrev a4O (a b c d : Int) : Obj := .cells #[.int .i64 a, .int .i64 b, .int .i64 c, .int .i64 d] 66 (0, 0)
theorem ltV_of (a b : Vl) : ltV a b = (if a.tm ≠ b.tm then decide (a.tm < b.tm) else if a.kd ≠ b.kd then decide (a.kd < b.kd) else if a.tx ≠ b.tx then decide (a.tx < b.tx) else if a.op ≠ b.op then decide (a.op < b.op) else false) := by
  cases h : ltV a b
  · have h' : ¬ ltV a b = true := by rw [h]; decide
    rw [ltV_iff] at h'
    symm
    split
    · exact decide_eq_false (by omega)
    · split
      · exact decide_eq_false (by omega)
      · split
        · exact decide_eq_false (by omega)
        · split
          · exact decide_eq_false (by omega)
          · rfl
  · rw [ltV_iff] at h
    symm
    split
    · exact decide_eq_true (by omega)
    · split
      · exact decide_eq_true (by omega)
      · split
        · exact decide_eq_true (by omega)
        · split
          · exact decide_eq_true (by omega)
          · omega
set_option maxRecDepth 100000 in
set_option maxHeartbeats 3200000 in
theorem before18 (a b : Vl) (w : World) : Calls Try.prog 21 #[vlV a, vlV b] w fun e w' => e = .returned (.bool (ltV a b)) ∧ Grw w w' := by
  have mixed : Try.prog.follows .mixedOrders = true := by kernel_rfl
  have HLT : Hid _ := ltV_of a b
  have HG : Hid (Grw w ((((w.alloc (vlO a)).alloc (vlO b)).alloc (a4O a.tm a.kd a.tx a.op)).alloc (a4O b.tm b.kd b.tx b.op))) := ((((Grw.refl w).alloc _).alloc _).alloc _).alloc _
  have HX : Hid (((((w.alloc (vlO a)).alloc (vlO b)).alloc (a4O a.tm a.kd a.tx a.op)).alloc (a4O b.tm b.kd b.tx b.op)).heap[w.heap.size + 2]? = some (a4O a.tm a.kd a.tx a.op)) := by
    show _ = _
    rw [heap_old _ _ (by simp only [World.size_alloc]; omega)]
    have := heap_new ((w.alloc (vlO a)).alloc (vlO b)) (a4O a.tm a.kd a.tx a.op)
    simpa only [World.size_alloc] using this
  have HY : Hid (((((w.alloc (vlO a)).alloc (vlO b)).alloc (a4O a.tm a.kd a.tx a.op)).alloc (a4O b.tm b.kd b.tx b.op)).heap[w.heap.size + 3]? = some (a4O b.tm b.kd b.tx b.op)) := by
    have := heap_new (((w.alloc (vlO a)).alloc (vlO b)).alloc (a4O a.tm a.kd a.tx a.op)) (a4O b.tm b.kd b.tx b.op)
    simp only [World.size_alloc] at this
    exact this
  obtain ⟨lt, elt⟩ : ∃ lt, lt = ltV a b := ⟨_, rfl⟩
  rw [← elt] at HLT ⊢
  clear elt
  obtain ⟨kd, tm, tx, op, wit, key, wa, ex, gg, ob, fr, tt⟩ := a
  obtain ⟨kd', tm', tx', op', wit', key', wa', ex', gg', ob', fr', tt'⟩ := b
  unfold vlV
  unfold vlO a4O at HG HX HY
  simp only at HG HX HY HLT ⊢
  go_enter Try.func21, Try.ntmps21
  go_wp2_with fail
  generalize (((w.alloc _).alloc _).alloc _).alloc _ = W at HG HX HY ⊢
  generalize w.heap.size = g at HX HY ⊢
  go_loopw [7] (fun i wr => ∃ j : Nat, i = .int .i64 (j : Int) ∧ j ≤ 4 ∧ (0 < j → tm = tm') ∧ (1 < j → kd = kd') ∧ (2 < j → tx = tx') ∧ (3 < j → op = op') ∧ Grw W wr) (fun i _ => 4 - (intOf i).toNat)
  case atStart => exact ⟨0, rfl, by omega, by omega, by omega, by omega, by omega, Grw.refl _⟩
  case round =>
    obtain ⟨j, rfl, hj, e0, e1, e2, e3, gw⟩ := hrel
    rename World => WL
    have HW : Hid (Grw W WL) := gw
    have hx := (gw.kept.block _ (lt_of_heap HX.out) (fun e => e)).trans HX.out
    have hy := (gw.kept.block _ (lt_of_heap HY.out) (fun e => e)).trans HY.out
    have hgx := lt_of_heap hx
    have hgy := lt_of_heap hy
    have x0 : WL.cell? ⟨g + 2, 0, none⟩ = some (.int .i64 tm) := (cell_of hx 0).trans rfl
    have y0 : WL.cell? ⟨g + 3, 0, none⟩ = some (.int .i64 tm') := (cell_of hy 0).trans rfl
    have x1 : WL.cell? ⟨g + 2, 1, none⟩ = some (.int .i64 kd) := (cell_of hx 1).trans rfl
    have y1 : WL.cell? ⟨g + 3, 1, none⟩ = some (.int .i64 kd') := (cell_of hy 1).trans rfl
    have x2 : WL.cell? ⟨g + 2, 2, none⟩ = some (.int .i64 tx) := (cell_of hx 2).trans rfl
    have y2 : WL.cell? ⟨g + 3, 2, none⟩ = some (.int .i64 tx') := (cell_of hy 2).trans rfl
    have x3 : WL.cell? ⟨g + 2, 3, none⟩ = some (.int .i64 op) := (cell_of hx 3).trans rfl
    have y3 : WL.cell? ⟨g + 3, 3, none⟩ = some (.int .i64 op') := (cell_of hy 3).trans rfl
    clear hx hy gw
    have hjc : j = 0 ∨ j = 1 ∨ j = 2 ∨ j = 3 ∨ j = 4 := by omega
    rcases hjc with rfl | rfl | rfl | rfl | rfl
    · by_cases he : tm = tm'
      · have hb : (tm != tm') = false := by simp [he]
        have E0 : Hid (tm = tm') := he
        clear e0 e1 e2 e3 he
        go_wp2_with fail
        go_quiet (fail)
        go_wp2_with fail
        go_roundw
        case rel => exact ⟨1, by first | rfl | simp, by omega, fun _ => E0.out, by omega, by omega, by omega, HW.out.trans (by (repeat (first | exact Grw.refl _ | apply Grw.drew | apply Grw.drewN)); done)⟩
        case measure => simp only [intOf]; omega
      · have hb : (tm != tm') = true := by simp [he]
        have HR : Hid (lt = decide (tm < tm')) := by
          show _ = _
          rw [HLT.out]
          simp only [ne_eq]
          rw [if_pos he]
        clear e0 e1 e2 e3 he
        go_wp2_with fail
        go_quiet (fail)
        go_wp2_with fail
        go_quiet (fail)
        go_wp2_with fail
        go_ret
        exact ⟨by rw [HR.out]; first | rfl | simp, HG.out.trans (HW.out.trans (by (repeat (first | exact Grw.refl _ | apply Grw.drew | apply Grw.drewN)); done))⟩
    · by_cases he : kd = kd'
      · have hb : (kd != kd') = false := by simp [he]
        have E0 : Hid (kd = kd') := he
        have Q0 : Hid (tm = tm') := e0 (by omega)
        clear e0 e1 e2 e3 he
        go_wp2_with fail
        go_quiet (fail)
        go_wp2_with fail
        go_roundw
        case rel => exact ⟨2, by first | rfl | simp, by omega, fun _ => Q0.out, fun _ => E0.out, by omega, by omega, HW.out.trans (by (repeat (first | exact Grw.refl _ | apply Grw.drew | apply Grw.drewN)); done)⟩
        case measure => simp only [intOf]; omega
      · have hb : (kd != kd') = true := by simp [he]
        have HR : Hid (lt = decide (kd < kd')) := by
          show _ = _
          rw [HLT.out]
          simp only [ne_eq, e0 (by omega), not_true_eq_false, if_false]
          rw [if_pos he]
        clear e0 e1 e2 e3 he
        go_wp2_with fail
        go_quiet (fail)
        go_wp2_with fail
        go_quiet (fail)
        go_wp2_with fail
        go_ret
        exact ⟨by rw [HR.out]; first | rfl | simp, HG.out.trans (HW.out.trans (by (repeat (first | exact Grw.refl _ | apply Grw.drew | apply Grw.drewN)); done))⟩
    · by_cases he : tx = tx'
      · have hb : (tx != tx') = false := by simp [he]
        have E0 : Hid (tx = tx') := he
        have Q0 : Hid (tm = tm') := e0 (by omega)
        have Q1 : Hid (kd = kd') := e1 (by omega)
        clear e0 e1 e2 e3 he
        go_wp2_with fail
        go_quiet (fail)
        go_wp2_with fail
        go_roundw
        case rel => exact ⟨3, by first | rfl | simp, by omega, fun _ => Q0.out, fun _ => Q1.out, fun _ => E0.out, by omega, HW.out.trans (by (repeat (first | exact Grw.refl _ | apply Grw.drew | apply Grw.drewN)); done)⟩
        case measure => simp only [intOf]; omega
      · have hb : (tx != tx') = true := by simp [he]
        have HR : Hid (lt = decide (tx < tx')) := by
          show _ = _
          rw [HLT.out]
          simp only [ne_eq, e0 (by omega), e1 (by omega), not_true_eq_false, if_false]
          rw [if_pos he]
        clear e0 e1 e2 e3 he
        go_wp2_with fail
        go_quiet (fail)
        go_wp2_with fail
        go_quiet (fail)
        go_wp2_with fail
        go_ret
        exact ⟨by rw [HR.out]; first | rfl | simp, HG.out.trans (HW.out.trans (by (repeat (first | exact Grw.refl _ | apply Grw.drew | apply Grw.drewN)); done))⟩
    · by_cases he : op = op'
      · have hb : (op != op') = false := by simp [he]
        have E0 : Hid (op = op') := he
        have Q0 : Hid (tm = tm') := e0 (by omega)
        have Q1 : Hid (kd = kd') := e1 (by omega)
        have Q2 : Hid (tx = tx') := e2 (by omega)
        clear e0 e1 e2 e3 he
        go_wp2_with fail
        go_quiet (fail)
        go_wp2_with fail
        go_roundw
        case rel => exact ⟨4, by first | rfl | simp, by omega, fun _ => Q0.out, fun _ => Q1.out, fun _ => Q2.out, fun _ => E0.out, HW.out.trans (by (repeat (first | exact Grw.refl _ | apply Grw.drew | apply Grw.drewN)); done)⟩
        case measure => simp only [intOf]; omega
      · have hb : (op != op') = true := by simp [he]
        have HR : Hid (lt = decide (op < op')) := by
          show _ = _
          rw [HLT.out]
          simp only [ne_eq, e0 (by omega), e1 (by omega), e2 (by omega), not_true_eq_false, if_false]
          rw [if_pos he]
        clear e0 e1 e2 e3 he
        go_wp2_with fail
        go_quiet (fail)
        go_wp2_with fail
        go_quiet (fail)
        go_wp2_with fail
        go_ret
        exact ⟨by rw [HR.out]; first | rfl | simp, HG.out.trans (HW.out.trans (by (repeat (first | exact Grw.refl _ | apply Grw.drew | apply Grw.drewN)); done))⟩
    · have HR : Hid (lt = false) := by
        show _ = _
        rw [HLT.out]
        simp [e0 (by omega), e1 (by omega), e2 (by omega), e3 (by omega)]
      clear e0 e1 e2 e3
      go_wp2_with fail
      go_ret
      exact ⟨by rw [HR.out]; rfl, HG.out.trans HW.out⟩
end Go.Proofs.Ytnfkjblhnpnaeaa
