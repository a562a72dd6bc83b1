/- What is proved: what the document's Add leaves where it takes a row, and what its Take answers; the buffer is one that New made. -/
import Derived.Test.YtcbllejjiokmbaaNRBuf
namespace Go.Proofs.Ytcbllejjiokmbaa
open Go.RowKit

set_option maxRecDepth 100000 in
set_option maxHeartbeats 1600000 in
theorem radd_ok {base : Nat} {w : World} {b : Nat} {order : Int} {bud : Nat} {v : Value} {xs : List RwM} {pk : Nat} (h : Rf base w b order bud v xs pk) {r : RwM} (hr : rightR r) (hf : szs xs + (bytesR r).length ≤ bud) :
    Calls Try.prog 18 #[.pointer (some ⟨b, 0, none⟩), rowV r] w fun e w' => e = .returned (.int .i64 0) ∧ ∃ v', Rf base w' b order bud v' (xs ++ [r]) (max pk (szs xs + (bytesR r).length)) ∧ Same (fun k => k = b ∨ v.ownBlock = some k) w w' ∧ ∀ k, v'.ownBlock = some k → v.ownBlock = some k ∨ w.heap.size ≤ k := by
  have HH : Hid _ := h
  have HS : Hid (∀ W, _) := fun W => bytes_ref W r hr
  have HV : Hid (∀ W, _) := fun W => validR9_any r W
  rw [decide_eq_true hr] at HV
  have HBX : Hid _ := heap_new w (.cells #[.int .i64 r.kind, .int .i64 r.time, .int .i64 r.seq, .int .i64 r.index, .int .i64 r.frm, .int .i64 r.til, .string r.body] 46)
  have KB : Hid (Kept w (w.alloc (.cells #[.int .i64 r.kind, .int .i64 r.time, .int .i64 r.seq, .int .i64 r.index, .int .i64 r.frm, .int .i64 r.til, .string r.body] 46))) := (Same.refl _ w).alloc _
  have hz2 := (bytesR_len hr).2
  have hmost := h.most
  obtain ⟨z, ez⟩ : ∃ z, z = (bytesR r).length := ⟨_, rfl⟩
  obtain ⟨pk', epk⟩ : ∃ pk', pk' = max pk (szs xs + z) := ⟨_, rfl⟩
  have HMO : Hid (∀ (W W' w3 : World) (v3 : Value) (pk' : Nat), W.heap[b]? = some (Obj.cells #[.int .i64 order, .int .i64 (bud : Int), .int .i64 ((szs xs + (bytesR r).length : Nat) : Int), .int .i64 (pk' : Int), v] 54 (0, 0)) → Same (fun k => k = b) w W → Kept W W' → OwnQ base w3 v3 (xs ++ [r]) → Same (fun k => v.ownBlock = some k) W' w3 → _) := fun W W' w3 v3 pk' hW hS k o3 k3 => h.more hr hf hW hS k o3 k3
  rw [← ez] at hz2 hf HMO ⊢
  have EZ : Hid _ := ez
  obtain ⟨ob0, hbl⟩ : w.heap[b]? = some (.cells #[.int .i64 order, .int .i64 (bud : Int), .int .i64 ((szs xs : Nat) : Int), .int .i64 (pk : Int), v] 54 (0, 0)) ∧ b < w.heap.size := ⟨h.obj, lt_of_heap h.obj⟩
  have OB0 : Hid _ := ob0
  generalize hsx : szs xs = sx at *
  have hz3 : (z : Int) ≤ 561 := by omega
  have hs3 : (sx : Int) ≤ 16777216 := by omega
  have hb4 : (bud : Int) ≤ 16777216 := by omega
  have hb5 : (0 : Int) ≤ (bud : Int) - (sx : Int) := by omega
  rw [← epk]
  have d1 : decide ((bud : Int) < (z : Int)) = false := decide_eq_false (by omega)
  have d1' : ¬ (bud : Int) < (z : Int) := by omega
  have d2 : decide ((bud : Int) - (sx : Int) < (z : Int)) = false := decide_eq_false (by omega)
  have d2' : ¬ (bud : Int) - (sx : Int) < (z : Int) := by omega
  have HSX : Hid _ := hsx
  have EPK : Hid _ := epk
  have hns : w.heap.size ≠ b := by omega
  clear h ez epk hr hsx hf ob0
  obtain ⟨kind, time, seq, index, frm, til, body⟩ := r
  unfold rowV at *
  simp only at *
  go_enter Try.func18, Try.ntmps18
  go_wp2_with fail
  refine Calls.mono (HV.out _) ?_
  rintro e w1 ⟨rfl, k1⟩
  have K1 : Hid _ := KB.out.trans' k1
  have hb1 := (k1.block _ (lt_of_heap HBX.out) (fun e => e)).trans HBX.out
  have HB1 : Hid _ := hb1
  obtain ⟨⟨y0, y1, y2, y3, y4, y5, y6⟩, -⟩ := row_obj hb1
  clear k1 hb1 HBX KB
  go_wp2_with fail
  refine Calls.mono (HS.out _) ?_
  rintro e w2 ⟨u2, rfl, o2, k2⟩
  obtain ⟨ub, uc, rfl, -, -, -, -, -⟩ := OwnB.bytes o2
  rw [← EZ.out]
  have K2 : Hid _ := K1.out.trans' k2
  have HB2 : Hid _ := (k2.block _ (lt_of_heap HB1.out) (fun e => e)).trans HB1.out
  have ob2 := (K2.out.block b hbl (fun e => e)).trans OB0.out
  have hbl2 : w.heap.size ≠ b := hns
  have c1 : w2.cell? ⟨b, 1, none⟩ = some (.int .i64 (bud : Int)) := (cell_of ob2 1).trans rfl
  have c2 : w2.cell? ⟨b, 2, none⟩ = some (.int .i64 (sx : Int)) := (cell_of ob2 2).trans rfl
  have c3 : w2.cell? ⟨b, 3, none⟩ = some (.int .i64 (pk : Int)) := (cell_of ob2 3).trans rfl
  have f2 := frozen_of ob2 2
  have f3 := frozen_of ob2 3
  have hbl3 := lt_of_heap ob2
  have OB2 : Hid _ := ob2
  clear o2 k2 ob2 y0 y1 y2 y3 y4 y5 y6 HS HV HB1 K1
  go_wp2_with fail
  go_region
  go_wp2_with fail
  by_cases hp : pk < sx + z
  · have t1 : decide ((pk : Int) < (sx : Int) + (z : Int)) = true := decide_eq_true (by omega)
    have t1' : (pk : Int) < (sx : Int) + (z : Int) := by omega
    have WH : Hid ((((w2.setCell ⟨b, 2, none⟩ (.int .i64 ((sx : Int) + (z : Int)))).setCell ⟨b, 3, none⟩ (.int .i64 ((sx : Int) + (z : Int)))).drew).heap[b]? = some (.cells #[.int .i64 order, .int .i64 (bud : Int), .int .i64 ((sx + z : Nat) : Int), .int .i64 (pk' : Int), v] 54 (0, 0)) ∧ Same (fun k => k = b) w2 (((w2.setCell ⟨b, 2, none⟩ (.int .i64 ((sx : Int) + (z : Int)))).setCell ⟨b, 3, none⟩ (.int .i64 ((sx : Int) + (z : Int)))).drew)) := by
      have e : (pk' : Int) = (sx : Int) + (z : Int) := by rw [EPK.out]; omega
      refine ⟨?_, (((Same.refl (fun k => k = b) w2).setCell ⟨b, 2, none⟩ (.inr rfl) _).setCell ⟨b, 3, none⟩ (.inr rfl) _).drew⟩
      rw [e, Int.natCast_add]
      exact (setCell_at (setCell_at OB2.out _ _) _ _).trans rfl
    go_region
    go_wp2_with fail
    have WD : Hid ((((w2.setCell ⟨b, 2, none⟩ (.int .i64 ((sx : Int) + (z : Int)))).setCell ⟨b, 3, none⟩ (.int .i64 ((sx : Int) + (z : Int)))).drew.drew).heap[b]? = some (.cells #[.int .i64 order, .int .i64 (bud : Int), .int .i64 ((sx + z : Nat) : Int), .int .i64 (pk' : Int), v] 54 (0, 0)) ∧ Same (fun k => k = b) w2 (((w2.setCell ⟨b, 2, none⟩ (.int .i64 ((sx : Int) + (z : Int)))).setCell ⟨b, 3, none⟩ (.int .i64 ((sx : Int) + (z : Int)))).drew.drew)) := ⟨WH.out.1, WH.out.2.drew⟩
    clear WH c1 c2 c3 f2 f3 hbl3 OB2
    generalize ((w2.setCell ⟨b, 2, none⟩ (.int .i64 ((sx : Int) + (z : Int)))).setCell ⟨b, 3, none⟩ (.int .i64 ((sx : Int) + (z : Int)))).drew.drew = W at WD ⊢
    have WH : Hid _ := WD.out
    clear WD
    have hW := WH.out.1
    have HWS : Hid _ := WH.out.2
    have hbW := (HWS.out.block _ (lt_of_heap HB2.out) (by have := hbl2; omega)).trans HB2.out
    obtain ⟨⟨y0, y1, y2, y3, y4, y5, y6⟩, -⟩ := row_obj hbW
    have hlxW := lt_of_heap hbW
    have c4 : W.cell? ⟨b, 4, none⟩ = some v := (cell_of hW 4).trans rfl
    have hblW := lt_of_heap hW
    have HHW : Hid _ := hW
    have KW : Hid (Same (fun k => k = b) w W) := (Kept.to K2.out _).trans' HWS.out
    have HAPP : Hid (∀ (W' : World) (bb : Nat), Kept W W' → W'.heap[bb]? = some (Obj.cells #[.int .i64 kind, .int .i64 time, .int .i64 seq, .int .i64 index, .int .i64 frm, .int .i64 til, .string body] 46 (0, 0)) → ∀ ty, _) := fun W' bb (k : Kept W W') hc ty => app_q (⟨kind, time, seq, index, frm, til, body⟩ : RwM) (OwnQ.kept (OwnQ.kept HH.out.own KW.out (fun g hg e => HH.out.ne hg e)) k (fun _ _ e => e)) hc (by have := HH.out.len; omega) (Nat.le_trans HH.out.low (Nat.le_of_lt (Nat.lt_of_lt_of_le hblW k.size))) ty
    have HCE : Hid (∀ W' w3, Kept W W' → Same (fun k => v.ownBlock = some k) W' w3 → w3.cell? ⟨b, 4, none⟩ = some v ∧ w3.frozen? ⟨b, 4, none⟩ = false ∧ b < w3.heap.size) := fun W' w3 k k3 => by
      have ob2 := (k.block b (lt_of_heap HHW.out) (fun e => e)).trans HHW.out
      have ob3 := (k3.block b (lt_of_heap ob2) (fun e => HH.out.ne e rfl)).trans ob2
      exact ⟨(cell_of ob3 4).trans rfl, frozen_of ob3 4, lt_of_heap ob3⟩
    clear hW hbW WH
    go_wp2_with fail
    go_region_law ((refine step_app rfl (.tmp 57) (.tmp 59) 50 rfl v (.slice (some ⟨W.heap.size, 0, none⟩) 1 1) rfl rfl _ (HAPP.out _ _ (by (repeat (first | assumption | exact Same.refl _ _ | apply Same.alloc | apply Same.drew | apply Same.drewN)); done) (by exact heap_new _ _)) ?_); rintro v3 w3 ⟨o3, k3, n3⟩; obtain ⟨e4, f4, hb3⟩ := HCE.out _ w3 (by (repeat (first | assumption | exact Same.refl _ _ | apply Same.alloc | apply Same.drew | apply Same.drewN)); done) k3; obtain ⟨a3, cp3, ev3, -⟩ := OwnQ.rows o3; subst ev3; have Q : Hid _ := And.intro (HMO.out W _ w3 _ _ HHW.out KW.out (by (repeat (first | assumption | exact Same.refl _ _ | apply Same.alloc | apply Same.drew | apply Same.drewN)); done) o3 k3) n3; clear o3 k3 n3)
    all_goals (go_wp2_with fail)
    all_goals go_ret
    all_goals
      obtain ⟨R, n3⟩ := Q.out
      have hl : xs.length + 1 = (xs ++ [(⟨kind, time, seq, index, frm, til, body⟩ : RwM)]).length := by simp
      rw [hl]
      exact ⟨rfl, _, by first | exact R.1 | exact R.1.on (Same.refl _ _).drew, by first | exact R.2 | exact R.2.drew, fun k hk => (n3 k hk).imp id (fun e => Nat.le_trans KW.out.size (Nat.le_trans (Same.size (S := fun _ => False) (w := W) (by (repeat (first | assumption | exact Same.refl _ _ | apply Same.alloc | apply Same.drew | apply Same.drewN)); done)) e))⟩
  · have t1 : decide ((pk : Int) < (sx : Int) + (z : Int)) = false := decide_eq_false (by omega)
    have t1' : ¬ (pk : Int) < (sx : Int) + (z : Int) := by omega
    have WD : Hid (((w2.setCell ⟨b, 2, none⟩ (.int .i64 ((sx : Int) + (z : Int)))).drew.drew).heap[b]? = some (.cells #[.int .i64 order, .int .i64 (bud : Int), .int .i64 ((sx + z : Nat) : Int), .int .i64 (pk' : Int), v] 54 (0, 0)) ∧ Same (fun k => k = b) w2 ((w2.setCell ⟨b, 2, none⟩ (.int .i64 ((sx : Int) + (z : Int)))).drew.drew)) := by
      have e : (pk' : Int) = (pk : Int) := by rw [EPK.out]; omega
      refine ⟨?_, ((Same.refl (fun k => k = b) w2).setCell ⟨b, 2, none⟩ (.inr rfl) _).drew.drew⟩
      rw [e, Int.natCast_add]
      exact (setCell_at OB2.out _ _).trans rfl
    go_region
    go_wp2_with fail
    clear c1 c2 c3 f2 f3 hbl3 OB2
    generalize (w2.setCell ⟨b, 2, none⟩ (.int .i64 ((sx : Int) + (z : Int)))).drew.drew = W at WD ⊢
    have WH : Hid _ := WD.out
    clear WD
    have hW := WH.out.1
    have HWS : Hid _ := WH.out.2
    have hbW := (HWS.out.block _ (lt_of_heap HB2.out) (by have := hbl2; omega)).trans HB2.out
    obtain ⟨⟨y0, y1, y2, y3, y4, y5, y6⟩, -⟩ := row_obj hbW
    have hlxW := lt_of_heap hbW
    have c4 : W.cell? ⟨b, 4, none⟩ = some v := (cell_of hW 4).trans rfl
    have hblW := lt_of_heap hW
    have HHW : Hid _ := hW
    have KW : Hid (Same (fun k => k = b) w W) := (Kept.to K2.out _).trans' HWS.out
    have HAPP : Hid (∀ (W' : World) (bb : Nat), Kept W W' → W'.heap[bb]? = some (Obj.cells #[.int .i64 kind, .int .i64 time, .int .i64 seq, .int .i64 index, .int .i64 frm, .int .i64 til, .string body] 46 (0, 0)) → ∀ ty, _) := fun W' bb (k : Kept W W') hc ty => app_q (⟨kind, time, seq, index, frm, til, body⟩ : RwM) (OwnQ.kept (OwnQ.kept HH.out.own KW.out (fun g hg e => HH.out.ne hg e)) k (fun _ _ e => e)) hc (by have := HH.out.len; omega) (Nat.le_trans HH.out.low (Nat.le_of_lt (Nat.lt_of_lt_of_le hblW k.size))) ty
    have HCE : Hid (∀ W' w3, Kept W W' → Same (fun k => v.ownBlock = some k) W' w3 → w3.cell? ⟨b, 4, none⟩ = some v ∧ w3.frozen? ⟨b, 4, none⟩ = false ∧ b < w3.heap.size) := fun W' w3 k k3 => by
      have ob2 := (k.block b (lt_of_heap HHW.out) (fun e => e)).trans HHW.out
      have ob3 := (k3.block b (lt_of_heap ob2) (fun e => HH.out.ne e rfl)).trans ob2
      exact ⟨(cell_of ob3 4).trans rfl, frozen_of ob3 4, lt_of_heap ob3⟩
    clear hW hbW WH
    go_wp2_with fail
    go_region_law ((refine step_app rfl (.tmp 57) (.tmp 59) 50 rfl v (.slice (some ⟨W.heap.size, 0, none⟩) 1 1) rfl rfl _ (HAPP.out _ _ (by (repeat (first | assumption | exact Same.refl _ _ | apply Same.alloc | apply Same.drew | apply Same.drewN)); done) (by exact heap_new _ _)) ?_); rintro v3 w3 ⟨o3, k3, n3⟩; obtain ⟨e4, f4, hb3⟩ := HCE.out _ w3 (by (repeat (first | assumption | exact Same.refl _ _ | apply Same.alloc | apply Same.drew | apply Same.drewN)); done) k3; obtain ⟨a3, cp3, ev3, -⟩ := OwnQ.rows o3; subst ev3; have Q : Hid _ := And.intro (HMO.out W _ w3 _ _ HHW.out KW.out (by (repeat (first | assumption | exact Same.refl _ _ | apply Same.alloc | apply Same.drew | apply Same.drewN)); done) o3 k3) n3; clear o3 k3 n3)
    all_goals (go_wp2_with fail)
    all_goals go_ret
    all_goals
      obtain ⟨R, n3⟩ := Q.out
      have hl : xs.length + 1 = (xs ++ [(⟨kind, time, seq, index, frm, til, body⟩ : RwM)]).length := by simp
      rw [hl]
      exact ⟨rfl, _, by first | exact R.1 | exact R.1.on (Same.refl _ _).drew, by first | exact R.2 | exact R.2.drew, fun k hk => (n3 k hk).imp id (fun e => Nat.le_trans KW.out.size (Nat.le_trans (Same.size (S := fun _ => False) (w := W) (by (repeat (first | assumption | exact Same.refl _ _ | apply Same.alloc | apply Same.drew | apply Same.drewN)); done)) e))⟩
set_option maxRecDepth 100000 in
set_option maxHeartbeats 1600000 in
theorem rtake10 {base : Nat} {w : World} {b : Nat} {order : Int} {bud : Nat} {v : Value} {xs : List RwM} {pk : Nat} (h : Rf base w b order bud v xs pk) :
    Calls Try.prog 22 #[.pointer (some ⟨b, 0, none⟩)] w fun e w' => ∃ u, e = .returned u ∧ OwnQ w.heap.size w' u (srt (bef order) xs) ∧ Rf base w' b order bud (.slice none 0 0) [] pk ∧ Same (fun k => k = b) w w' := by
  obtain ⟨a, cap, ev, hra, hq1, hq2, -⟩ := OwnQ.rows h.own
  subst ev
  have HO : Hid (∀ W, Kept w W → Calls Try.prog 29 #[.int .i64 order, .slice a xs.length cap] W fun e w' => ∃ u, e = .returned u ∧ OwnQ w.heap.size w' u (srt (bef order) xs) ∧ Kept w w') := fun W k => Calls.mono (sorted10 order (xs.length + 1) (Nat.lt_succ_self _) (hra.on k) hq1 hq2 (by have := h.len; omega)) fun e w' ⟨u, h1, h2, h3⟩ => ⟨u, h1, OwnQ.lower h2 k.size, k.trans' h3⟩
  obtain ⟨⟨c0, c1, c2, c3, c4⟩, -, -, -, hbl⟩ := h.cells
  have HT : Hid (∀ W, Kept w W → Kept w W ∧ W.cell? ⟨b, 0, none⟩ = some (.int .i64 order) ∧ W.cell? ⟨b, 4, none⟩ = some (.slice a xs.length cap)) := fun W k => ⟨k, (h.on k).cells.1.1, (h.on k).cells.1.2.2.2.2⟩
  have HD : Hid (∀ w1 u, Kept w w1 → OwnQ w.heap.size w1 u (srt (bef order) xs) → OwnQ w.heap.size ((w1.setCell ⟨b, 4, none⟩ (.slice none 0 0)).setCell ⟨b, 2, none⟩ (.int .i64 0)) u (srt (bef order) xs) ∧ Rf base ((w1.setCell ⟨b, 4, none⟩ (.slice none 0 0)).setCell ⟨b, 2, none⟩ (.int .i64 0)) b order bud (.slice none 0 0) [] pk ∧ Same (fun k => k = b) w ((w1.setCell ⟨b, 4, none⟩ (.slice none 0 0)).setCell ⟨b, 2, none⟩ (.int .i64 0))) := fun w1 u k o1 => by
    have hs : Same (fun k => k = b) w1 ((w1.setCell ⟨b, 4, none⟩ (.slice none 0 0)).setCell ⟨b, 2, none⟩ (.int .i64 0)) := ((Same.refl (fun k => k = b) w1).setCell ⟨b, 4, none⟩ (.inr rfl) _).setCell ⟨b, 2, none⟩ (.inr rfl) _
    refine ⟨OwnQ.kept o1 hs fun g hg e => ?_, ⟨(setCell_at (setCell_at (h.on k).obj _ _) _ _).trans rfl, OwnQ.nil _ _, h.low, fun r hr => by simp at hr, Nat.zero_le _, h.most⟩, (k.to _).trans' hs⟩
    have := (OwnQ.block o1 hg).1
    omega
  have HCE : Hid (∀ w1, Kept w w1 → (w1.cell? ⟨b, 4, none⟩ = some (.slice a xs.length cap) ∧ ∃ z, w1.cell? ⟨b, 2, none⟩ = some z) ∧ w1.frozen? ⟨b, 4, none⟩ = false ∧ w1.frozen? ⟨b, 2, none⟩ = false ∧ b < w1.heap.size) := fun w1 k => ⟨⟨(h.on k).cells.1.2.2.2.2, _, (h.on k).cells.1.2.2.1⟩, (h.on k).cells.2.2.2.1, (h.on k).cells.2.1, (h.on k).cells.2.2.2.2⟩
  clear h hra
  go_enter Try.func22, Try.ntmps22
  go_wp2_with fail
  go_region_held3 (fun W => Kept w W ∧ W.cell? ⟨b, 0, none⟩ = some (.int .i64 order) ∧ W.cell? ⟨b, 4, none⟩ = some (.slice a xs.length cap))
    (exact HT.out _ (by (repeat (first | assumption | exact Same.refl _ _ | apply Same.alloc | apply Same.drew | apply Same.drewN)); done))
    ((first
    | (go_at_call 29; refine Calls.mono (HO.out _ (by (repeat (first | assumption | exact Same.refl _ _ | apply Same.alloc | apply Same.drew | apply Same.drewN)); done)) ?_; rintro e w1 ⟨u, rfl, o1, k1⟩)))
  all_goals
    obtain ⟨⟨e2, z, e3⟩, f2, f3, hb1⟩ := HCE.out _ k1
    have R : Hid _ := HD.out _ _ k1 o1
    obtain ⟨ua, uc, eu, -, -⟩ := OwnQ.rows o1
    subst eu
    clear o1 k1
    go_wp2_with fail
    go_ret
    obtain ⟨r1, r2, r3⟩ := R.out
    first
    | exact ⟨_, rfl, r1, r2, r3⟩
    | exact ⟨_, rfl, OwnQ.kept r1 ((Same.refl (fun _ => False) _).drew) (fun _ _ e => e), r2.on (Same.refl _ _).drew, r3.drew⟩
end Go.Proofs.Ytcbllejjiokmbaa
