/- What is proved: a walk takes a session row as the document says; the walk lies in memory. -/
import Derived.Test.YtbjmdpfoeeadeaaJWlk
namespace Go.Proofs.Ytbjmdpfoeeadeaa.Sw
open Go.RowKit

theorem compare_f (o k t s i f u : Int) (y : ByteArray) (k' t' s' i' f' u' : Int) (y' : ByteArray) (w : World) : Calls Try.prog 39 #[.int .i64 o, .agg #[.int .i64 k, .int .i64 t, .int .i64 s, .int .i64 i, .int .i64 f, .int .i64 u, .string y], .agg #[.int .i64 k', .int .i64 t', .int .i64 s', .int .i64 i', .int .i64 f', .int .i64 u', .string y']] w fun e w' => e = .returned (.int .i64 (Rw.comp o ⟨k, t, s, i, f, u, y⟩ ⟨k', t', s', i', f', u', y'⟩)) ∧ Kept w w' := Rw.compare_any o ⟨k, t, s, i, f, u, y⟩ ⟨k', t', s', i', f', u', y'⟩ w
theorem follow_f (k t s i f u : Int) (y : ByteArray) (k' t' s' i' f' u' : Int) (y' : ByteArray) (w : World) : Calls Try.prog 40 #[.agg #[.int .i64 k, .int .i64 t, .int .i64 s, .int .i64 i, .int .i64 f, .int .i64 u, .string y], .agg #[.int .i64 k', .int .i64 t', .int .i64 s', .int .i64 i', .int .i64 f', .int .i64 u', .string y']] w fun e w' => ∃ v, e = .returned v ∧ OwnL w.heap.size w' v (fol ⟨k, t, s, i, f, u, y⟩ ⟨k', t', s', i', f', u', y'⟩) ∧ Kept w w' := follow17 ⟨k, t, s, i, f, u, y⟩ ⟨k', t', s', i', f', u', y'⟩ w
theorem valid_f (k t s i f u : Int) (y : ByteArray) (w : World) : Calls Try.prog 17 #[.agg #[.int .i64 k, .int .i64 t, .int .i64 s, .int .i64 i, .int .i64 f, .int .i64 u, .string y]] w fun e w' => e = .returned (.bool (decide (Rw.rightR ⟨k, t, s, i, f, u, y⟩))) ∧ Kept w w' := Rw.valid9_any ⟨k, t, s, i, f, u, y⟩ w
theorem row7 {W : World} {g : Nat} {k t s i f u : Int} {y : ByteArray} {ty : TypeId} (h : W.heap[g]? = some (.cells #[.int .i64 k, .int .i64 t, .int .i64 s, .int .i64 i, .int .i64 f, .int .i64 u, .string y] ty (0, 0))) : W.cell? ⟨g, 0, none⟩ = some (.int .i64 k) ∧ W.cell? ⟨g, 1, none⟩ = some (.int .i64 t) ∧ W.cell? ⟨g, 2, none⟩ = some (.int .i64 s) ∧ W.cell? ⟨g, 3, none⟩ = some (.int .i64 i) ∧ W.cell? ⟨g, 4, none⟩ = some (.int .i64 f) ∧ W.cell? ⟨g, 5, none⟩ = some (.int .i64 u) ∧ W.cell? ⟨g, 6, none⟩ = some (.string y) :=
  ⟨(cell_of h 0).trans rfl, (cell_of h 1).trans rfl, (cell_of h 2).trans rfl, (cell_of h 3).trans rfl, (cell_of h 4).trans rfl, (cell_of h 5).trans rfl, (cell_of h 6).trans rfl⟩
def putW (w : World) (b : Nat) (v0 v1 v2 v3 v4 v5 v6 : Value) : World := ((((((w.setCell ⟨b, 0, none⟩ v0).setCell ⟨b, 1, none⟩ v1).setCell ⟨b, 2, none⟩ v2).setCell ⟨b, 3, none⟩ v3).setCell ⟨b, 4, none⟩ v4).setCell ⟨b, 5, none⟩ v5).setCell ⟨b, 6, none⟩ v6
theorem putW_at {w : World} {b : Nat} {u0 u1 u2 u3 u4 u5 u6 : Value} {ty : TypeId} (h : w.heap[b]? = some (.cells #[u0, u1, u2, u3, u4, u5, u6] ty (0, 0))) (v0 v1 v2 v3 v4 v5 v6 : Value) : (putW w b v0 v1 v2 v3 v4 v5 v6).heap[b]? = some (.cells #[v0, v1, v2, v3, v4, v5, v6] ty (0, 0)) :=
  (setCell_at (setCell_at (setCell_at (setCell_at (setCell_at (setCell_at (setCell_at h 0 _) 1 _) 2 _) 3 _) 4 _) 5 _) 6 _).trans (by simp)
theorem putW_same (w : World) (b : Nat) (v0 v1 v2 v3 v4 v5 v6 : Value) : Same (fun k => k = b) w (putW w b v0 v1 v2 v3 v4 v5 v6) :=
  (((((((Same.refl (fun k => k = b) w).setCell _ (.inr rfl) _).setCell _ (.inr rfl) _).setCell _ (.inr rfl) _).setCell _ (.inr rfl) _).setCell _ (.inr rfl) _).setCell _ (.inr rfl) _).setCell _ (.inr rfl) _
def TkP (w : World) (wb : Nat) (q r : Rw.RwM) (e : Ending) (w' : World) : Prop := ∃ v, e = .returned (.tuple #[v, .int .i64 (codW q r)]) ∧ OwnL w.heap.size w' v (lisW q r) ∧ w'.heap[wb]? = some (rwO (nxW q r) 81) ∧ Same (fun k => k = wb) w w'
theorem TkP.no {w w' : World} {wb : Nat} {q r : Rw.RwM} {z : Int} (hz : z ≠ 0) (hc : codW q r = z) (hq : w.heap[wb]? = some (rwO q 81)) (k : Kept w w') : TkP w wb q r (.returned (.tuple #[.slice none 0 0, .int .i64 z])) w' := by
  have h0 : ¬ codW q r = 0 := by omega
  refine ⟨_, by rw [hc], ?_, ?_, Kept.to k _⟩
  · unfold lisW
    rw [if_neg h0]
    exact OwnL.nil _ _
  · unfold nxW
    rw [if_neg h0]
    exact (k.block _ (lt_of_heap hq) (fun e => e)).trans hq
set_option maxRecDepth 100000 in
set_option maxHeartbeats 3200000 in
theorem take17 {w : World} {wb : Nat} {q r : Rw.RwM} (hq : w.heap[wb]? = some (rwO q 81)) : Calls Try.prog 20 #[.pointer (some ⟨wb, 0, none⟩), Rw.rowV r] w (TkP w wb q r) := by
  have HQ : Hid (w.heap[wb]? = some (rwO q 81)) := hq
  have hwb := lt_of_heap hq
  have N90 : Hid (¬ Rw.rightR r → ∀ w', Kept w w' → TkP w wb q r (.returned (.tuple #[.slice none 0 0, .int .i64 90])) w') := fun h w' k => TkP.no (by decide) (by unfold codW; rw [if_pos h]) hq k
  have N90' : Hid (Rw.rightR r → ¬ r.kind = 3 → ∀ w', Kept w w' → TkP w wb q r (.returned (.tuple #[.slice none 0 0, .int .i64 90])) w') := fun h h2 w' k => TkP.no (by decide) (by unfold codW; rw [if_neg (by simpa using h), if_pos h2]) hq k
  have N161 : Hid (Rw.rightR r → r.kind = 3 → 0 ≤ Rw.comp 2 q r → ∀ w', Kept w w' → TkP w wb q r (.returned (.tuple #[.slice none 0 0, .int .i64 161])) w') := fun h h2 h3 w' k => TkP.no (by decide) (by unfold codW; rw [if_neg (by simpa using h), if_neg (by simpa using h2), if_pos h3]) hq k
  have Y0 : Hid (Rw.rightR r → r.kind = 3 → ¬ 0 ≤ Rw.comp 2 q r → ∀ w' v, OwnL w.heap.size w' v (fol q r) → w'.heap[wb]? = some (rwO (lsR r) 81) → Same (fun k => k = wb) w w' → TkP w wb q r (.returned (.tuple #[v, .int .i64 0])) w') := fun h h2 h3 w' v ho hn k => by
    have h0 : codW q r = 0 := by unfold codW; rw [if_neg (by simpa using h), if_neg (by simpa using h2), if_neg h3]
    refine ⟨v, by rw [h0], ?_, ?_, k⟩
    · unfold lisW; rw [if_pos h0]; exact ho
    · unfold nxW; rw [if_pos h0]; exact hn
  have HV : Hid (∀ W, _) := fun W => valid_f r.kind r.time r.seq r.index r.frm r.til r.body W
  clear hq
  obtain ⟨qkind, qtime, qseq, qindex, qfrm, qtil, qbody⟩ := q
  obtain ⟨rkind, rtime, rseq, rindex, rfrm, rtil, rbody⟩ := r
  unfold Rw.rowV
  simp only at *
  obtain ⟨cc, hcc⟩ : ∃ cc, cc = Rw.comp 2 ⟨qkind, qtime, qseq, qindex, qfrm, qtil, qbody⟩ ⟨rkind, rtime, rseq, rindex, rfrm, rtil, rbody⟩ := ⟨_, rfl⟩
  obtain ⟨bv, hbv⟩ : ∃ bv, bv = decide (Rw.rightR ⟨rkind, rtime, rseq, rindex, rfrm, rtil, rbody⟩) := ⟨_, rfl⟩
  rw [← hcc] at N161 Y0
  rw [← hbv] at HV
  have HCC : Hid _ := hcc
  have HBV : Hid _ := hbv
  clear hcc hbv
  go_enter Try.func20, Try.ntmps20
  go_wp2_with fail
  refine Calls.mono (HV.out _) ?_
  rintro e W1 ⟨rfl, k1⟩
  have K1 : Hid (Kept w W1) := ((Same.refl _ w).alloc _).trans' k1
  have GB : Hid (W1.heap[w.heap.size]? = some (rwO ⟨rkind, rtime, rseq, rindex, rfrm, rtil, rbody⟩ 42)) := (k1.block _ (by simp [World.size_alloc]) (fun e => e)).trans (heap_new _ _)
  have QB : Hid (W1.heap[wb]? = some (rwO ⟨qkind, qtime, qseq, qindex, qfrm, qtil, qbody⟩ 81)) := (K1.out.block _ (lt_of_heap HQ.out) (fun e => e)).trans HQ.out
  have hgb := lt_of_heap GB.out
  have hqb := lt_of_heap QB.out
  obtain ⟨g0, g1, g2, g3, g4, g5, g6⟩ := row7 GB.out
  obtain ⟨q0, q1, q2, q3, q4, q5, q6⟩ := row7 QB.out
  have hne : ¬ w.heap.size = wb := by omega
  have hne2 : ¬ wb = w.heap.size := by omega
  clear k1 HV hwb
  generalize hg : w.heap.size = g at *
  cases bv with
  | false =>
    have hnr := N90.out (of_decide_eq_false HBV.out.symm)
    have HNR : Hid _ := hnr
    clear hnr N90 N90' N161 Y0
    go_wp2_with fail
    go_ret2
    exact HNR.out _ K1.out
  | true =>
    have hrr0 : Rw.rightR ⟨rkind, rtime, rseq, rindex, rfrm, rtil, rbody⟩ := of_decide_eq_true HBV.out.symm
    have hrr : Hid (Rw.rightR ⟨rkind, rtime, rseq, rindex, rfrm, rtil, rbody⟩) := hrr0
    clear hrr0
    by_cases h3 : rkind = 3
    case neg =>
      have d3 : (rkind != 3) = true := by simpa using h3
      have HNR : Hid _ := N90'.out hrr.out h3
      clear N90 N90' N161 Y0
      go_wp2_with fail
      go_ret2
      exact HNR.out _ K1.out
    subst h3
    have N161' : Hid _ := N161.out hrr.out rfl
    have Y0' : Hid _ := Y0.out hrr.out rfl
    have d3 : ((3 : Int) != 3) = false := rfl
    clear N90 N90' N161 Y0
    go_upto_region 3 with fail
    clear d3
    have HBX : Hid (∀ W', Kept W1 W' → Kept W1 W' ∧ (W'.cell? ⟨wb, 0, none⟩ = some (.int .i64 qkind) ∧ W'.cell? ⟨wb, 1, none⟩ = some (.int .i64 qtime) ∧ W'.cell? ⟨wb, 2, none⟩ = some (.int .i64 qseq) ∧ W'.cell? ⟨wb, 3, none⟩ = some (.int .i64 qindex) ∧ W'.cell? ⟨wb, 4, none⟩ = some (.int .i64 qfrm) ∧ W'.cell? ⟨wb, 5, none⟩ = some (.int .i64 qtil) ∧ W'.cell? ⟨wb, 6, none⟩ = some (.string qbody)) ∧ (W'.cell? ⟨g, 0, none⟩ = some (.int .i64 3) ∧ W'.cell? ⟨g, 1, none⟩ = some (.int .i64 rtime) ∧ W'.cell? ⟨g, 2, none⟩ = some (.int .i64 rseq) ∧ W'.cell? ⟨g, 3, none⟩ = some (.int .i64 rindex) ∧ W'.cell? ⟨g, 4, none⟩ = some (.int .i64 rfrm) ∧ W'.cell? ⟨g, 5, none⟩ = some (.int .i64 rtil) ∧ W'.cell? ⟨g, 6, none⟩ = some (.string rbody))) := fun W' k => ⟨k, row7 ((k.block _ (lt_of_heap QB.out) (fun e => e)).trans QB.out), row7 ((k.block _ (lt_of_heap GB.out) (fun e => e)).trans GB.out)⟩
    have HCK : Hid (∀ W, Kept W1 W → Calls _ _ _ _ fun e w' => e = .returned (.int .i64 cc) ∧ Kept W1 w') := fun W (kw : Kept W1 W) => Calls.mono (compare_f 2 qkind qtime qseq qindex qfrm qtil qbody 3 rtime rseq rindex rfrm rtil rbody W) (fun e w' hh => ⟨by rw [HCC.out]; exact hh.1, kw.trans' hh.2⟩)
    go_cut [16] (fun s16 wx => s16 = .bool (decide (0 ≤ cc)) ∧ Kept W1 wx)
    case first =>
      go_region_held3 (fun w' => Kept W1 w' ∧ (w'.cell? ⟨wb, 0, none⟩ = some (.int .i64 qkind) ∧ w'.cell? ⟨wb, 1, none⟩ = some (.int .i64 qtime) ∧ w'.cell? ⟨wb, 2, none⟩ = some (.int .i64 qseq) ∧ w'.cell? ⟨wb, 3, none⟩ = some (.int .i64 qindex) ∧ w'.cell? ⟨wb, 4, none⟩ = some (.int .i64 qfrm) ∧ w'.cell? ⟨wb, 5, none⟩ = some (.int .i64 qtil) ∧ w'.cell? ⟨wb, 6, none⟩ = some (.string qbody)) ∧ (w'.cell? ⟨g, 0, none⟩ = some (.int .i64 3) ∧ w'.cell? ⟨g, 1, none⟩ = some (.int .i64 rtime) ∧ w'.cell? ⟨g, 2, none⟩ = some (.int .i64 rseq) ∧ w'.cell? ⟨g, 3, none⟩ = some (.int .i64 rindex) ∧ w'.cell? ⟨g, 4, none⟩ = some (.int .i64 rfrm) ∧ w'.cell? ⟨g, 5, none⟩ = some (.int .i64 rtil) ∧ w'.cell? ⟨g, 6, none⟩ = some (.string rbody)))
        (exact HBX.out _ (by (repeat (first | assumption | exact Same.refl _ _ | apply Same.alloc | apply Same.drew | apply Same.drewN)); done))
        ((go_at_call 39; refine Calls.mono (HCK.out _ (by (repeat (first | assumption | exact Same.refl _ _ | apply Same.alloc | apply Same.drew | apply Same.drewN)); done)) ?_; rintro r wq ⟨rfl, kx⟩))
      all_goals
        go_wp2_with fail
        go_meet
        exact ⟨rfl, (by (repeat (first | assumption | exact Same.refl _ _ | apply Same.alloc | apply Same.drew | apply Same.drewN)); done)⟩
    case rest =>
      obtain ⟨rfl, kc⟩ := hcut
      have KC : Hid (Kept W1 wc) := kc
      obtain ⟨-, ⟨z0, z1, z2, z3, z4, z5, z6⟩, ⟨y0, y1, y2, y3, y4, y5, y6⟩⟩ := HBX.out wc kc
      clear kc g0 g1 g2 g3 g4 g5 g6 q0 q1 q2 q3 q4 q5 q6 HCK
      by_cases h4 : 0 ≤ cc
      · have d4 : decide (0 ≤ cc) = true := decide_eq_true h4
        have HNR : Hid _ := N161'.out h4
        go_wp2_with fail
        go_ret2
        exact HNR.out _ (K1.out.trans' KC.out)
      · rw [decide_eq_false h4]
        have HNR : Hid _ := Y0'.out (by omega)
        clear Y0' N161'
        have hwc1 : wb < wc.heap.size := Nat.lt_of_lt_of_le hqb KC.out.size
        have hwc2 : g < wc.heap.size := Nat.lt_of_lt_of_le hgb KC.out.size
        have HBC : Hid (∀ W', Kept wc W' → Kept wc W' ∧ (W'.cell? ⟨wb, 0, none⟩ = some (.int .i64 qkind) ∧ W'.cell? ⟨wb, 1, none⟩ = some (.int .i64 qtime) ∧ W'.cell? ⟨wb, 2, none⟩ = some (.int .i64 qseq) ∧ W'.cell? ⟨wb, 3, none⟩ = some (.int .i64 qindex) ∧ W'.cell? ⟨wb, 4, none⟩ = some (.int .i64 qfrm) ∧ W'.cell? ⟨wb, 5, none⟩ = some (.int .i64 qtil) ∧ W'.cell? ⟨wb, 6, none⟩ = some (.string qbody)) ∧ (W'.cell? ⟨g, 0, none⟩ = some (.int .i64 3) ∧ W'.cell? ⟨g, 1, none⟩ = some (.int .i64 rtime) ∧ W'.cell? ⟨g, 2, none⟩ = some (.int .i64 rseq) ∧ W'.cell? ⟨g, 3, none⟩ = some (.int .i64 rindex) ∧ W'.cell? ⟨g, 4, none⟩ = some (.int .i64 rfrm) ∧ W'.cell? ⟨g, 5, none⟩ = some (.int .i64 rtil) ∧ W'.cell? ⟨g, 6, none⟩ = some (.string rbody))) := fun W' k => ⟨k, (HBX.out W' (KC.out.trans' k)).2⟩
        have HFK : Hid (∀ W, Kept wc W → Calls _ _ _ _ fun e w' => ∃ a m c, e = .returned (.slice a m c) ∧ OwnL wc.heap.size w' (.slice a m c) (fol ⟨qkind, qtime, qseq, qindex, qfrm, qtil, qbody⟩ ⟨3, rtime, rseq, rindex, rfrm, rtil, rbody⟩) ∧ Kept wc w') := fun W (kw : Kept wc W) => Calls.mono (follow_f qkind qtime qseq qindex qfrm qtil qbody 3 rtime rseq rindex rfrm rtil rbody W) (fun e w' hh => by
          obtain ⟨v, rfl, o, k⟩ := hh
          obtain ⟨a, c, ev, -⟩ := row_shape o
          subst ev
          exact ⟨_, _, _, rfl, row_base o kw.size, kw.trans' k⟩)
        generalize fol ⟨qkind, qtime, qseq, qindex, qfrm, qtil, qbody⟩ ⟨3, rtime, rseq, rindex, rfrm, rtil, rbody⟩ = FL at *
        go_upto_region 5 with fail
        go_cut [6] (fun s6 wx => ∃ a m c, s6 = .slice a m c ∧ OwnL wc.heap.size wx (.slice a m c) FL ∧ Kept wc wx)
        case first =>
          go_region_held3 (fun w' => Kept wc w' ∧ (w'.cell? ⟨wb, 0, none⟩ = some (.int .i64 qkind) ∧ w'.cell? ⟨wb, 1, none⟩ = some (.int .i64 qtime) ∧ w'.cell? ⟨wb, 2, none⟩ = some (.int .i64 qseq) ∧ w'.cell? ⟨wb, 3, none⟩ = some (.int .i64 qindex) ∧ w'.cell? ⟨wb, 4, none⟩ = some (.int .i64 qfrm) ∧ w'.cell? ⟨wb, 5, none⟩ = some (.int .i64 qtil) ∧ w'.cell? ⟨wb, 6, none⟩ = some (.string qbody)) ∧ (w'.cell? ⟨g, 0, none⟩ = some (.int .i64 3) ∧ w'.cell? ⟨g, 1, none⟩ = some (.int .i64 rtime) ∧ w'.cell? ⟨g, 2, none⟩ = some (.int .i64 rseq) ∧ w'.cell? ⟨g, 3, none⟩ = some (.int .i64 rindex) ∧ w'.cell? ⟨g, 4, none⟩ = some (.int .i64 rfrm) ∧ w'.cell? ⟨g, 5, none⟩ = some (.int .i64 rtil) ∧ w'.cell? ⟨g, 6, none⟩ = some (.string rbody)))
            (exact HBC.out _ (by (repeat (first | assumption | exact Same.refl _ _ | apply Same.alloc | apply Same.drew | apply Same.drewN)); done))
            ((go_at_call 40; refine Calls.mono (HFK.out _ (by (repeat (first | assumption | exact Same.refl _ _ | apply Same.alloc | apply Same.drew | apply Same.drewN)); done)) ?_; rintro r wq ⟨a9, m9, c9, rfl, o9, kx⟩; have O9 : Hid _ := o9; clear o9))
          all_goals
            go_wp2_with fail
            go_meet
            exact ⟨_, _, _, rfl, O9.out, (by (repeat (first | assumption | exact Same.refl _ _ | apply Same.alloc | apply Same.drew | apply Same.drewN)); done)⟩
        case rest =>
          rename World => WD
          obtain ⟨a6, m6, c6, rfl, o6, k6⟩ := hcut
          have O6 : Hid (OwnL wc.heap.size WD (.slice a6 m6 c6) FL) := o6
          have KD : Hid (Kept w WD) := (K1.out.trans' KC.out).trans' k6
          obtain ⟨-, ⟨z0, z1, z2, z3, z4, z5, z6⟩, ⟨y0, y1, y2, y3, y4, y5, y6⟩⟩ := HBC.out WD k6
          have QD : Hid (WD.heap[wb]? = some (rwO ⟨qkind, qtime, qseq, qindex, qfrm, qtil, qbody⟩ 81)) := ((KC.out.trans' k6).block _ (lt_of_heap QB.out) (fun e => e)).trans QB.out
          have f0 := frozen_of QD.out 0
          have f1 := frozen_of QD.out 1
          have f2 := frozen_of QD.out 2
          have f3 := frozen_of QD.out 3
          have f4 := frozen_of QD.out 4
          have f5 := frozen_of QD.out 5
          have f6 := frozen_of QD.out 6
          have hw1 := lt_of_heap QD.out
          have hw2 : g < WD.heap.size := Nat.lt_of_lt_of_le hwc2 k6.size
          have HBW : Hid (w.heap.size ≤ wc.heap.size) := Nat.le_trans K1.out.size KC.out.size
          clear o6 k6 HFK HBC HBX hwc1 hwc2
          go_wp2_with fail
          go_ret2
          have sW := putW_same WD wb (.int .i64 0) (.int .i64 rtime) (.int .i64 rseq) (.int .i64 rindex) (.int .i64 0) (.int .i64 rtil) (.string ⟨#[]⟩)
          exact HNR.out (putW WD wb (.int .i64 0) (.int .i64 rtime) (.int .i64 rseq) (.int .i64 rindex) (.int .i64 0) (.int .i64 rtil) (.string ⟨#[]⟩)) (.slice a6 m6 c6) (row_kept (row_base O6.out (hg ▸ HBW.out)) sW (fun k hk e => by
            obtain ⟨-, cur, hc⟩ := row_block O6.out hk
            exact types_ne (e ▸ hc) QD.out (by decide))) (putW_at QD.out _ _ _ _ _ _ _) ((Kept.to KD.out _).trans' sW)
end Go.Proofs.Ytbjmdpfoeeadeaa.Sw
