/- What is proved: the law RulesMemory answers true and leaves all that was there as it was; the transaction fits a machine's memory. -/
import Derived.Test.YtbjmdpfoeeadeabJMm
import Derived.Test.YtbjmdpfoeeadeabJRsh
import Derived.Test.YtbjmdpfoeeadeabRSame
namespace Go.Proofs.Ytbjmdpfoeeadeab.Sw
open Go.RowKit

theorem plainf (k t s i f u : Int) (y : ByteArray) (w : World) : Calls Try.prog 13 #[.agg #[.int .i64 k, .int .i64 t, .int .i64 s, .int .i64 i, .int .i64 f, .int .i64 u, .string y]] w fun e w' => e = .returned (.agg #[.int .i64 k, .int .i64 t, .int .i64 s, .int .i64 i, .int .i64 f, .int .i64 u, .string y]) ∧ Kept w w' := Rw.plain_any ⟨k, t, s, i, f, u, y⟩ w
theorem neq_same (r : Rw.RwM) (w : World) : (binOp .neq 46 (Rw.rowV r) (Rw.rowV r)).run Try.prog w = .ok (.bool false) w := by
  unfold Rw.rowV
  go_simp
theorem row7 {W : World} {g : Nat} {k t s i f u : Int} {y : ByteArray} {ty : TypeId} (h : W.heap[g]? = some (.cells #[.int .i64 k, .int .i64 t, .int .i64 s, .int .i64 i, .int .i64 f, .int .i64 u, .string y] ty (0, 0))) : W.cell? ⟨g, 0, none⟩ = some (.int .i64 k) ∧ W.cell? ⟨g, 1, none⟩ = some (.int .i64 t) ∧ W.cell? ⟨g, 2, none⟩ = some (.int .i64 s) ∧ W.cell? ⟨g, 3, none⟩ = some (.int .i64 i) ∧ W.cell? ⟨g, 4, none⟩ = some (.int .i64 f) ∧ W.cell? ⟨g, 5, none⟩ = some (.int .i64 u) ∧ W.cell? ⟨g, 6, none⟩ = some (.string y) :=
  ⟨(cell_of h 0).trans rfl, (cell_of h 1).trans rfl, (cell_of h 2).trans rfl, (cell_of h 3).trans rfl, (cell_of h 4).trans rfl, (cell_of h 5).trans rfl, (cell_of h 6).trans rfl⟩
/-- What stands while lists are marked and grown. -/
structure Ms (w W : World) (g : Nat) (o : Obj) (vb vq : Value) (LB : List Vl) (LR : List Rw.RwM) : Prop where
  kp : Kept w W
  bt : W.heap[g]? = some o
  b : OwnL 0 W vb LB
  q : Rw.OwnR 0 W vq LR
theorem Ms.on {w W W' : World} {g : Nat} {o : Obj} {vb vq : Value} {LB : List Vl} {LR : List Rw.RwM} (h : Ms w W g o vb vq LB LR) {S : Nat → Prop} (hs : Same S W W') (hS : ∀ k, S k → w.heap.size ≤ k ∧ k ≠ g ∧ vb.ownBlock ≠ some k ∧ vq.ownBlock ≠ some k) : Ms w W' g o vb vq LB LR :=
  ⟨h.kp.trans hs (fun k hk e => by have := (hS k e).1; omega), (hs.block _ (lt_of_heap h.bt) (fun e => (hS _ e).2.1 rfl)).trans h.bt, row_kept h.b hs (fun k hk e => (hS k e).2.2.1 hk), row_kept h.q hs (fun k hk e => (hS k e).2.2.2 hk)⟩
theorem Ms.kept {w W W' : World} {g : Nat} {o : Obj} {vb vq : Value} {LB : List Vl} {LR : List Rw.RwM} (h : Ms w W g o vb vq LB LR) (hs : Kept W W') : Ms w W' g o vb vq LB LR := h.on hs (fun _ e => e.elim)
theorem own_pos {base : Nat} {w : World} {e : TypeId} {sz n : Nat} {v : Value} {l : List Value} (h : w.ownsRow base e sz v n l) : ∃ a c, v = .slice a n c := by
  obtain ⟨a, c, ev, -⟩ := row_shape h
  exact ⟨a, c, ev⟩
set_option maxRecDepth 100000 in
set_option maxHeartbeats 6400000 in
theorem memory_law (t : TxM) (a : Option Addr) (c : Nat) (w : World) (h : ArgT w t a c) :
    Calls Try.prog 3 #[txV t (.slice a t.ops.length c)] w fun e w' => e = .returned (.bool true) ∧ Kept w w' := by
  have HA : Hid (∀ W, _) := fun W => anchor17 W
  have HV : Hid (∀ W, Kept w W → _) := fun W k => validR_any W t _ (h.on k).txa
  have HC : Hid (∀ W, Kept w W → _) := fun W k => copy_any W t a c (h.on k)
  have HS : Hid (∀ W base a' c', OwnO base W (.slice a' t.ops.length c') t.ops → _) := fun W base a' c' (ho : OwnO base W (.slice a' t.ops.length c') t.ops) => Shape17 7 t 0 a' c' W (fun W2 k2 => OwnO.txa (OwnO.on ho k2))
  have HR : Hid (∀ W base a' c', OwnO base W (.slice a' t.ops.length c') t.ops → _) := fun W base a' c' (ho : OwnO base W (.slice a' t.ops.length c') t.ops) => rows17 7 t a' c' W (fun W2 k2 => OwnO.txa (OwnO.on ho k2))
  have HSM : Hid (∀ W base a' c', Kept w W → OwnO base W (.slice a' t.ops.length c') t.ops → _) := fun W base a' c' (kw : Kept w W) (ho : OwnO base W (.slice a' t.ops.length c') t.ops) => sameT W t _ _ (OwnO.txa ho) (h.on kw).txa (by have := h.le; omega)
  have HDS : Hid (∀ W, Kept w W → _) := fun W k => rShape17 7 t 0 a c W (fun W2 k2 => (h.on (k.trans' k2)).txa)
  have HDR : Hid (∀ W, Kept w W → _) := fun W k => rrows17 7 t a c W (fun W2 k2 => (h.on (k.trans' k2)).txa)
  generalize hn : t.ops.length = n at *
  clear h hn
  unfold txV at HV HC HS HR HSM HDS HDR ⊢
  go_enter Try.func3, Try.ntmps3
  go_wp2_with fail
  refine Calls.mono (HA.out _) ?_
  rintro e W1 ⟨rfl, k1⟩
  have hb : W1.heap[w.heap.size]? = some (txO t a n c) := (k1.block _ (by simp [World.size_alloc]) (fun e => e)).trans (heap_new _ _)
  have K1 : Hid (Kept w W1) := ((Same.refl _ w).alloc _).trans' k1
  have HB1 : Hid (W1.heap[w.heap.size]? = some (txO t a n c)) := hb
  obtain ⟨⟨p0, p1, p2, p3, p4, p5, p6, p7⟩, -⟩ := tx_obj hb
  have hl := lt_of_heap hb
  clear hb k1
  go_wp2_with fail
  refine Calls.mono (HV.out _ K1.out) ?_
  rintro e W2 ⟨rfl, k2⟩
  have K2 : Hid (Kept w W2) := K1.out.trans' k2
  have HB2 : Hid (W2.heap[w.heap.size]? = some (txO t a n c)) := (k2.block _ (lt_of_heap HB1.out) (fun e => e)).trans HB1.out
  clear k2 p0 p1 p2 p3 p4 p5 p6 p7 hl HA HV
  by_cases hv : valid t = 0
  case neg =>
    have dv : (valid t != 0) = true := by simpa using hv
    clear HC HS HR HSM HDS HDR
    generalize valid t = vt at *
    go_wp2_with fail
    go_ret
    exact ⟨rfl, K2.out⟩
  have hr : Right t := valid_zero.1 hv
  rw [hv]
  have ec : codS 7 t 0 = 0 := by unfold codS; rw [if_neg (by omega), if_neg (by omega)]; exact hv
  have el : lisS 7 t 0 = shp 7 t 0 := by unfold lisS; rw [if_pos ec]
  have ec2 : codR 7 t = 0 := by unfold codR; rw [if_neg (by omega)]; exact hv
  have el2 : lisR 7 t = rwsR 7 t := by unfold lisR; rw [if_pos ec2]
  rw [ec, el] at HS HDS
  rw [ec2, el2] at HR HDR
  have LA : Hid ((shp 7 t 0).length ≤ 4) := shp_len 7 t 0
  have LR : Hid ((rwsR 7 t).length ≤ 3 ∧ 1 ≤ (rwsR 7 t).length) := ⟨rwsR_len 7 t, by unfold rwsR; simp⟩
  generalize shp 7 t 0 = A at *
  generalize rwsR 7 t = R at *
  clear ec el ec2 el2 hr hv
  have z0 : ((0 : Int) != 0) = false := rfl
  obtain ⟨⟨p0, p1, p2, p3, p4, p5, p6, p7⟩, -⟩ := tx_obj HB2.out
  have hl := lt_of_heap HB2.out
  go_wp2_with fail
  refine Calls.mono (HC.out _ K2.out) ?_
  rintro e W3 ⟨aU, cU, rfl, oU, kU⟩
  have OU : Hid (OwnO W2.heap.size W3 (.slice aU n cU) t.ops) := oU
  have HB3 : Hid (W3.heap[w.heap.size]? = some (txO t a n c)) := (kU.block _ (lt_of_heap HB2.out) (fun e => e)).trans HB2.out
  have K3 : Hid (Kept w W3) := K2.out.trans' kU
  clear p0 p1 p2 p3 p4 p5 p6 p7 hl oU kU
  go_upto_region 6 with fail
  have GU : Hid _ := heap_new W3 (txO t aU n cU)
  have KX : Hid (Kept W3 (W3.alloc (txO t aU n cU))) := (Same.refl _ _).alloc _
  change Code.wp _ _ _ _ (W3.alloc (txO t aU n cU))
  generalize W3.alloc (txO t aU n cU) = W4 at *
  generalize W3.heap.size = gu at GU ⊢
  have K4 : Hid (Kept w W4) := K3.out.trans' KX.out
  have HB4 : Hid (W4.heap[w.heap.size]? = some (txO t a n c)) := (KX.out.block _ (lt_of_heap HB3.out) (fun e => e)).trans HB3.out
  have OU4 : Hid (OwnO W2.heap.size W4 (.slice aU n cU) t.ops) := OwnO.on OU.out KX.out
  obtain ⟨nA, eA⟩ : ∃ x, x = A.length := ⟨_, rfl⟩
  obtain ⟨nR, eR⟩ : ∃ x, x = R.length := ⟨_, rfl⟩
  have EA : Hid (nA = A.length) := eA
  have ER : Hid (nR = R.length) := eR
  clear eA eR OU K3 HB3
  obtain ⟨⟨p0, p1, p2, p3, p4, p5, p6, p7⟩, -⟩ := tx_obj GU.out
  have hl := lt_of_heap GU.out
  go_wp2_with fail
  refine Calls.mono (HS.out _ _ _ _ OU4.out) ?_
  rintro e W5 ⟨vA, rfl, oA, kA⟩
  obtain ⟨aA, cA, ev⟩ := own_pos oA
  subst ev
  have HA5 : Hid (∀ k, (Value.slice aA nA cA).ownBlock = some k → k < W5.heap.size) := fun k hk => by
    rw [show nA = _ from EA.out] at hk
    obtain ⟨-, cur, h2⟩ := row_block oA hk
    exact lt_of_heap h2
  have OA : Hid (OwnL W4.heap.size W5 (.slice aA nA cA) A) := by rw [show nA = _ from EA.out]; exact oA
  rw [← show nA = _ from EA.out]
  have K5 : Hid (Kept w W5) := K4.out.trans' kA
  have GU' : Hid (W5.heap[gu]? = some (txO t aU n cU)) := (kA.block _ (lt_of_heap GU.out) (fun e => e)).trans GU.out
  clear GU
  have GU := GU'
  clear GU'
  have HB5 : Hid (W5.heap[w.heap.size]? = some (txO t a n c)) := (kA.block _ (lt_of_heap HB4.out) (fun e => e)).trans HB4.out
  have OU5 : Hid (OwnO W2.heap.size W5 (.slice aU n cU) t.ops) := OwnO.on OU4.out kA
  have SZ4 : Hid (W4.heap.size ≤ W5.heap.size) := kA.size
  clear p0 p1 p2 p3 p4 p5 p6 p7 hl oA kA OU4 HB4
  obtain ⟨⟨p0, p1, p2, p3, p4, p5, p6, p7⟩, -⟩ := tx_obj GU.out
  have hl := lt_of_heap GU.out
  go_wp2_with fail
  refine Calls.mono (HS.out _ _ _ _ OU5.out) ?_
  rintro e W6 ⟨vB, rfl, oB, kB⟩
  obtain ⟨aB, cB, ev⟩ := own_pos oB
  subst ev
  have OB : Hid (OwnL W5.heap.size W6 (.slice aB nA cB) A) := by rw [show nA = _ from EA.out]; exact oB
  rw [← show nA = _ from EA.out]
  have K6 : Hid (Kept w W6) := K5.out.trans' kB
  have GU' : Hid (W6.heap[gu]? = some (txO t aU n cU)) := (kB.block _ (lt_of_heap GU.out) (fun e => e)).trans GU.out
  clear GU
  have GU := GU'
  clear GU'
  have HB6 : Hid (W6.heap[w.heap.size]? = some (txO t a n c)) := (kB.block _ (lt_of_heap HB5.out) (fun e => e)).trans HB5.out
  have OU6 : Hid (OwnO W2.heap.size W6 (.slice aU n cU) t.ops) := OwnO.on OU5.out kB
  have SZ5 : Hid (W5.heap.size ≤ W6.heap.size) := kB.size
  have OA' : Hid (OwnL W4.heap.size W6 (.slice aA nA cA) A) := row_kept OA.out kB (fun _ _ e => e)
  clear OA
  have OA := OA'
  clear OA'
  clear p0 p1 p2 p3 p4 p5 p6 p7 hl oB kB OU5 HB5
  obtain ⟨⟨p0, p1, p2, p3, p4, p5, p6, p7⟩, -⟩ := tx_obj GU.out
  have hl := lt_of_heap GU.out
  go_wp2_with fail
  refine Calls.mono (HR.out _ _ _ _ OU6.out) ?_
  rintro e W7 ⟨vP, rfl, oP, kP⟩
  obtain ⟨aP, cP, ev⟩ := own_pos oP
  subst ev
  have HP7 : Hid (∀ k, (Value.slice aP nR cP).ownBlock = some k → k < W7.heap.size) := fun k hk => by
    rw [show nR = _ from ER.out] at hk
    obtain ⟨-, cur, h2⟩ := row_block oP hk
    exact lt_of_heap h2
  have OP : Hid (Rw.OwnR W6.heap.size W7 (.slice aP nR cP) R) := by rw [show nR = _ from ER.out]; exact oP
  rw [← show nR = _ from ER.out]
  have K7 : Hid (Kept w W7) := K6.out.trans' kP
  have GU' : Hid (W7.heap[gu]? = some (txO t aU n cU)) := (kP.block _ (lt_of_heap GU.out) (fun e => e)).trans GU.out
  clear GU
  have GU := GU'
  clear GU'
  have HB7 : Hid (W7.heap[w.heap.size]? = some (txO t a n c)) := (kP.block _ (lt_of_heap HB6.out) (fun e => e)).trans HB6.out
  have OU7 : Hid (OwnO W2.heap.size W7 (.slice aU n cU) t.ops) := OwnO.on OU6.out kP
  have SZ6 : Hid (W6.heap.size ≤ W7.heap.size) := kP.size
  have OA' : Hid (OwnL W4.heap.size W7 (.slice aA nA cA) A) := row_kept OA.out kP (fun _ _ e => e)
  clear OA
  have OA := OA'
  clear OA'
  have OB' : Hid (OwnL W5.heap.size W7 (.slice aB nA cB) A) := row_kept OB.out kP (fun _ _ e => e)
  clear OB
  have OB := OB'
  clear OB'
  clear p0 p1 p2 p3 p4 p5 p6 p7 hl oP kP OU6 HB6
  obtain ⟨⟨p0, p1, p2, p3, p4, p5, p6, p7⟩, -⟩ := tx_obj GU.out
  have hl := lt_of_heap GU.out
  go_wp2_with fail
  refine Calls.mono (HR.out _ _ _ _ OU7.out) ?_
  rintro e W8 ⟨vQ, rfl, oQ, kQ⟩
  obtain ⟨aQ, cQ, ev⟩ := own_pos oQ
  subst ev
  have OQ : Hid (Rw.OwnR W7.heap.size W8 (.slice aQ nR cQ) R) := by rw [show nR = _ from ER.out]; exact oQ
  rw [← show nR = _ from ER.out]
  have K8 : Hid (Kept w W8) := K7.out.trans' kQ
  have GU' : Hid (W8.heap[gu]? = some (txO t aU n cU)) := (kQ.block _ (lt_of_heap GU.out) (fun e => e)).trans GU.out
  clear GU
  have GU := GU'
  clear GU'
  have HB8 : Hid (W8.heap[w.heap.size]? = some (txO t a n c)) := (kQ.block _ (lt_of_heap HB7.out) (fun e => e)).trans HB7.out
  have OU8 : Hid (OwnO W2.heap.size W8 (.slice aU n cU) t.ops) := OwnO.on OU7.out kQ
  have SZ7 : Hid (W7.heap.size ≤ W8.heap.size) := kQ.size
  have OA' : Hid (OwnL W4.heap.size W8 (.slice aA nA cA) A) := row_kept OA.out kQ (fun _ _ e => e)
  clear OA
  have OA := OA'
  clear OA'
  have OB' : Hid (OwnL W5.heap.size W8 (.slice aB nA cB) A) := row_kept OB.out kQ (fun _ _ e => e)
  clear OB
  have OB := OB'
  clear OB'
  have OP' : Hid (Rw.OwnR W6.heap.size W8 (.slice aP nR cP) R) := row_kept OP.out kQ (fun _ _ e => e)
  clear OP
  have OP := OP'
  clear OP'
  clear p0 p1 p2 p3 p4 p5 p6 p7 hl oQ kQ OU7 HB7
  have hnR : ¬ ((nR : Int) < 1) := by have h1 := LR.out; have h2 := ER.out; omega
  have dnR : decide ((nR : Int) < 1) = false := decide_eq_false hnR
  have hnR2 : ¬ (nR < 1) := by omega
  have dnR2 : decide (nR < 1) = false := decide_eq_false hnR2
  have dnE : ((nR : Int) != (nR : Int)) = false := by simp
  obtain ⟨⟨p0, p1, p2, p3, p4, p5, p6, p7⟩, -⟩ := tx_obj GU.out
  obtain ⟨⟨y0, y1, y2, y3, y4, y5, y6, y7⟩, -⟩ := tx_obj HB8.out
  have hl := lt_of_heap GU.out
  have hl2 := lt_of_heap HB8.out
  go_wp2_with fail
  refine Calls.mono (HSM.out _ _ _ _ K8.out OU8.out) ?_
  rintro e W9 ⟨rfl, k9⟩
  have KK9 : Hid (Kept W8 W9) := k9
  have OA9 : Hid (OwnL W4.heap.size W9 (.slice aA nA cA) A) := row_kept OA.out k9 (fun _ _ e => e)
  have OB9 : Hid (OwnL W5.heap.size W9 (.slice aB nA cB) A) := row_kept OB.out k9 (fun _ _ e => e)
  clear p0 p1 p2 p3 p4 p5 p6 p7 y0 y1 y2 y3 y4 y5 y6 y7 hl hl2 k9 HSM OU8
  go_wp2_with fail
  refine Calls.mono (same16 W9 aA aB nA cA cB A OA9.out OB9.out EA.out (by have h1 := LA.out; have h2 := EA.out; omega)) ?_
  rintro e W10 ⟨rfl, k10⟩
  have K810 : Hid (Kept W8 W10) := KK9.out.trans' k10
  clear k10 OA9 OB9
  have MS : Hid (Ms w W10 w.heap.size (txO t a n c) (.slice aB nA cB) (.slice aQ nR cQ) A R) := ⟨K8.out.trans' K810.out, (K810.out.block _ (lt_of_heap HB8.out) (fun e => e)).trans HB8.out, row_kept (row_base OB.out (Nat.zero_le _)) K810.out (fun _ _ e => e), by
    have h9 := row_kept (row_base OQ.out (Nat.zero_le _)) K810.out (fun _ _ e => e)
    exact h9⟩
  have OAX : Hid (OwnL W4.heap.size W10 (.slice aA nA cA) A) := row_kept OA.out K810.out (fun _ _ e => e)
  have OPX : Hid (Rw.OwnR W6.heap.size W10 (.slice aP nR cP) R) := row_kept OP.out K810.out (fun _ _ e => e)
  have WS : Hid (w.heap.size ≤ W4.heap.size ∧ w.heap.size ≤ W6.heap.size) := ⟨K4.out.size, Nat.le_trans K4.out.size (Nat.le_trans SZ4.out SZ5.out)⟩
  have FA : Hid (∀ k, (Value.slice aA nA cA).ownBlock = some k → w.heap.size ≤ k ∧ k ≠ w.heap.size ∧ (Value.slice aB nA cB).ownBlock ≠ some k ∧ (Value.slice aQ nR cQ).ownBlock ≠ some k) := fun k hk => by
    obtain ⟨h1, cur, h2⟩ := row_block OA.out hk
    have h0 := HA5.out k hk
    refine ⟨Nat.le_trans WS.out.1 h1, fun e => types_ne (e ▸ h2) HB8.out (by decide), fun e => ?_, fun e => ?_⟩
    · have := (row_block OB.out e).1
      omega
    · obtain ⟨-, cur2, h3⟩ := row_block OQ.out e
      exact types_ne h2 h3 (by decide)
  have FP : Hid (∀ k, (Value.slice aP nR cP).ownBlock = some k → w.heap.size ≤ k ∧ k ≠ w.heap.size ∧ (Value.slice aB nA cB).ownBlock ≠ some k ∧ (Value.slice aQ nR cQ).ownBlock ≠ some k) := fun k hk => by
    obtain ⟨h1, cur, h2⟩ := row_block OP.out hk
    have h0 := HP7.out k hk
    refine ⟨Nat.le_trans WS.out.2 h1, fun e => types_ne (e ▸ h2) HB8.out (by decide), fun e => ?_, fun e => ?_⟩
    · obtain ⟨-, cur2, h3⟩ := row_block OB.out e
      exact types_ne h2 h3 (by decide)
    · have := (row_block OQ.out e).1
      omega
  have APn : Hid (∀ k, (Value.slice aA nA cA).ownBlock = some k → (Value.slice aP nR cP).ownBlock ≠ some k) := fun k hk e => by
    obtain ⟨-, cur, h2⟩ := row_block OA.out hk
    obtain ⟨-, cur2, h3⟩ := row_block OP.out e
    exact types_ne h2 h3 (by decide)
  have W4X : Hid (W4.heap.size ≤ W10.heap.size ∧ W6.heap.size ≤ W10.heap.size) := ⟨Nat.le_trans SZ4.out (Nat.le_trans SZ5.out (Nat.le_trans SZ6.out (Nat.le_trans SZ7.out K810.out.size))), Nat.le_trans SZ6.out (Nat.le_trans SZ7.out K810.out.size)⟩
  generalize hba : W4.heap.size = ba at *
  generalize hbp : W6.heap.size = bp at *
  clear OA OB OP OQ K810 KK9 hba hbp
  have hnA4 : Hid (nA ≤ 4) := by have h1 := LA.out; have h2 := EA.out; show nA ≤ 4; omega
  have hnR3 : Hid (nR ≤ 3) := by have h1 := LR.out; have h2 := ER.out; show nR ≤ 3; omega
  go_wp2_with fail
  go_loopw [89] (fun s89 wr => ∃ j : Nat, s89 = .int .i64 j ∧ j ≤ nA ∧ Shp ba wr 38 12 (.slice aA nA cA) nA ∧ Same (fun k => (Value.slice aA nA cA).ownBlock = some k) W10 wr) (fun s89 _ => nA - (intOf s89).toNat)
  case atStart => exact ⟨0, rfl, Nat.zero_le _, ⟨_, by have h9 := OAX.out; unfold OwnL at h9; rw [← show nA = _ from EA.out] at h9; exact h9⟩, Same.refl _ _⟩
  case round =>
    obtain ⟨j, rfl, hj, shj, sj⟩ := hrel
    rename World => WL
    have SH : Hid (Shp ba WL 38 12 (.slice aA nA cA) nA) := shj
    have SJ : Hid (Same (fun k => (Value.slice aA nA cA).ownBlock = some k) W10 WL) := sj
    clear shj sj
    by_cases hlt : j < nA
    · have d1 : decide ((j : Int) < (nA : Int)) = true := decide_eq_true (by omega)
      have hlt2 : (j : Int) < (nA : Int) := by omega
      have hws : IntKind.i64.wrap ((j : Int) + 1) = (j : Int) + 1 := by have h1 := hnA4.out; rw [IntKind.wrap_i64] <;> omega
      obtain ⟨ga, ca, ea, -, hga, hcells, hfrz⟩ := Shp.cells SH.out (by omega)
      cases ea
      obtain ⟨u0x, q0⟩ := hcells (j * 12) (by omega)
      have f0 := hfrz (j * 12)
      obtain ⟨u1x, q1⟩ := hcells (j * 12 + 1) (by omega)
      have f1 := hfrz (j * 12 + 1)
      obtain ⟨u2x, q2⟩ := hcells (j * 12 + 2) (by omega)
      have f2 := hfrz (j * 12 + 2)
      obtain ⟨u3x, q3⟩ := hcells (j * 12 + 3) (by omega)
      have f3 := hfrz (j * 12 + 3)
      obtain ⟨u4x, q4⟩ := hcells (j * 12 + 4) (by omega)
      have f4 := hfrz (j * 12 + 4)
      obtain ⟨u5x, q5⟩ := hcells (j * 12 + 5) (by omega)
      have f5 := hfrz (j * 12 + 5)
      obtain ⟨u6x, q6⟩ := hcells (j * 12 + 6) (by omega)
      have f6 := hfrz (j * 12 + 6)
      obtain ⟨u7x, q7⟩ := hcells (j * 12 + 7) (by omega)
      have f7 := hfrz (j * 12 + 7)
      obtain ⟨u8x, q8⟩ := hcells (j * 12 + 8) (by omega)
      have f8 := hfrz (j * 12 + 8)
      obtain ⟨u9x, q9⟩ := hcells (j * 12 + 9) (by omega)
      have f9 := hfrz (j * 12 + 9)
      obtain ⟨u10x, q10⟩ := hcells (j * 12 + 10) (by omega)
      have f10 := hfrz (j * 12 + 10)
      obtain ⟨u11x, q11⟩ := hcells (j * 12 + 11) (by omega)
      have f11 := hfrz (j * 12 + 11)
      clear hcells hfrz
      go_wp2_with fail
      go_roundw
      case rel => exact ⟨j + 1, by simp, hlt, Shp.put12M SH.out ga (j * 12) (.int .i64 60) (.int .i64 0) (.int .i64 0) (.int .i64 0) (.int .i64 0) (.string ⟨#[]⟩) (.bool false) (.string ⟨#[]⟩) (.bool false) (.string ⟨#[]⟩) (.int .i64 0) (.int .i64 0), SJ.out.trans (same12M WL ga (j * 12) (.int .i64 60) (.int .i64 0) (.int .i64 0) (.int .i64 0) (.int .i64 0) (.string ⟨#[]⟩) (.bool false) (.string ⟨#[]⟩) (.bool false) (.string ⟨#[]⟩) (.int .i64 0) (.int .i64 0)) (fun k hk e => by simp only [Value.ownBlock, Option.some.injEq]; exact e.symm)⟩
      case measure => simp only [intOf]; omega
    · obtain rfl : nA = j := by omega
      have d1 : decide ((nA : Int) < (nA : Int)) = false := decide_eq_false (by omega)
      have MSL : Hid (Ms w WL w.heap.size (txO t a n c) (.slice aB nA cB) (.slice aQ nR cQ) A R) := MS.out.on SJ.out FA.out
      have MK0 : Hid (Mkd bp WL (.slice aP nR cP) nR 0) := ⟨_, by
        have h9 := row_kept OPX.out SJ.out (fun k hk e => APn.out k e hk)
        rw [← show nR = _ from ER.out] at h9
        exact h9, fun i hi => by omega⟩
      have WLX : Hid (ba ≤ WL.heap.size ∧ bp ≤ WL.heap.size) := ⟨Nat.le_trans W4X.out.1 SJ.out.size, Nat.le_trans W4X.out.2 SJ.out.size⟩
      clear MS OAX OPX SJ W4X
      go_wp2_with fail
      go_loopw [99] (fun s99 wr => ∃ j : Nat, s99 = .int .i64 j ∧ j ≤ nR ∧ Mkd bp wr (.slice aP nR cP) nR j ∧ Same (fun k => (Value.slice aP nR cP).ownBlock = some k) WL wr) (fun s99 _ => nR - (intOf s99).toNat)
      case atStart => exact ⟨0, rfl, Nat.zero_le _, MK0.out, Same.refl _ _⟩
      case round =>
        clear d1
        obtain ⟨j, rfl, hj, mj, sj⟩ := hrel
        rename World => WM
        have MJ : Hid (Mkd bp WM (.slice aP nR cP) nR j) := mj
        have SJ : Hid (Same (fun k => (Value.slice aP nR cP).ownBlock = some k) WL WM) := sj
        clear mj sj
        by_cases hlt : j < nR
        case pos =>
          have d1 : decide ((j : Int) < (nR : Int)) = true := decide_eq_true (by omega)
          have hlt2 : (j : Int) < (nR : Int) := by omega
          have hws : IntKind.i64.wrap ((j : Int) + 1) = (j : Int) + 1 := by have h1 := hnR3.out; rw [IntKind.wrap_i64] <;> omega
          have hsp : Shp bp WM 40 7 (.slice aP nR cP) nR := by
            obtain ⟨xs, h1, -⟩ := MJ.out
            exact ⟨xs, h1⟩
          obtain ⟨ga, ca, ea, -, hga, hcells, hfrz⟩ := Shp.cells hsp (by omega)
          cases ea
          obtain ⟨u0x, q0⟩ := hcells (j * 7) (by omega)
          have f0 := hfrz (j * 7)
          obtain ⟨u1x, q1⟩ := hcells (j * 7 + 1) (by omega)
          have f1 := hfrz (j * 7 + 1)
          obtain ⟨u2x, q2⟩ := hcells (j * 7 + 2) (by omega)
          have f2 := hfrz (j * 7 + 2)
          obtain ⟨u3x, q3⟩ := hcells (j * 7 + 3) (by omega)
          have f3 := hfrz (j * 7 + 3)
          obtain ⟨u4x, q4⟩ := hcells (j * 7 + 4) (by omega)
          have f4 := hfrz (j * 7 + 4)
          obtain ⟨u5x, q5⟩ := hcells (j * 7 + 5) (by omega)
          have f5 := hfrz (j * 7 + 5)
          obtain ⟨u6x, q6⟩ := hcells (j * 7 + 6) (by omega)
          have f6 := hfrz (j * 7 + 6)
          clear hcells hfrz hsp
          go_wp2_with fail
          go_roundw
          case rel => exact ⟨j + 1, by simp, hlt, Mkd.put MJ.out hlt (.int .i64 0) (.int .i64 0) (.int .i64 0) (.int .i64 0) (.int .i64 0) (.string ⟨#[]⟩), SJ.out.trans (same7M WM ga (j * 7) (.int .i64 61) (.int .i64 0) (.int .i64 0) (.int .i64 0) (.int .i64 0) (.int .i64 0) (.string ⟨#[]⟩)) (fun k hk e => by simp only [Value.ownBlock, Option.some.injEq]; exact e.symm)⟩
          case measure => simp only [intOf]; omega
        obtain rfl : nR = j := by omega
        have d1 : decide ((nR : Int) < (nR : Int)) = false := decide_eq_false (by omega)
        have MSM : Hid (Ms w WM w.heap.size (txO t a n c) (.slice aB nA cB) (.slice aQ nR cQ) A R) := MSL.out.on SJ.out FP.out
        have SHM : Hid (Shp ba WM 38 12 (.slice aA nA cA) nA) := SH.out.kept SJ.out (fun k hk e => APn.out k hk e)
        have WMX : Hid (ba ≤ WM.heap.size ∧ bp ≤ WM.heap.size) := ⟨Nat.le_trans WLX.out.1 SJ.out.size, Nat.le_trans WLX.out.2 SJ.out.size⟩
        have AP1 : Hid _ := fun ty => app_two62 SHM.out (by have := hnA4.out; omega) WMX.out.1 ty
        clear MSL SH SJ WLX MK0
        go_wp2_with (at_builtin; apply Hid.out)
        refine Ch.wpList_app rfl (.tmp 107) (.tmp 110) 28 rfl (.slice aA nA cA) (.slice (some ⟨WM.heap.size, 0, none⟩) 2 2) rfl rfl _ AP1.out ?_
        rintro v13 W13 ⟨⟨xc, hxc, oc⟩, s13⟩
        obtain ⟨aC, cC, ev⟩ := own_pos oc
        subst ev
        have OC : Hid (W13.ownsRow ba 38 12 (.slice aC (nA + 2) cC) (nA + 2) (xc ++ two62)) := oc
        have HXC : Hid (xc.length = nA * 12) := hxc
        have MS13 : Hid (Ms w W13 w.heap.size (txO t a n c) (.slice aB nA cB) (.slice aQ nR cQ) A R) := MSM.out.on s13 FA.out
        have MK13 : Hid (Mkd bp W13 (.slice aP nR cP) nR nR) := MJ.out.kept s13 (fun k hk e => APn.out k e hk)
        have AP2 : Hid _ := fun ty => app_two63 MK13.out (by have := hnR3.out; omega) (Nat.le_trans WMX.out.2 s13.size) ty
        obtain ⟨nC, eC⟩ : ∃ x, x = nA + 2 := ⟨_, rfl⟩
        obtain ⟨nD, eD⟩ : ∃ x, x = nR + 2 := ⟨_, rfl⟩
        have EC : Hid (nC = nA + 2) := eC
        have ED : Hid (nD = nR + 2) := eD
        rw [← eC]
        clear oc eC eD AP1 hxc
        go_wp2_with (at_builtin; apply Hid.out)
        refine Ch.wpList_app rfl (.tmp 112) (.tmp 115) 32 rfl (.slice aP nR cP) (.slice (some ⟨W13.heap.size, 0, none⟩) 2 2) rfl rfl _ AP2.out ?_
        rintro v14 W14 ⟨⟨xd, hxd, hmd, od⟩, s14⟩
        obtain ⟨aD, cD, ev⟩ := own_pos od
        subst ev
        have OD : Hid (W14.ownsRow bp 40 7 (.slice aD (nR + 2) cD) (nR + 2) (xd ++ two63)) := od
        have HXD : Hid (xd.length = nR * 7) := hxd
        have HMD : Hid (∀ i, i < nR → xd[i * 7]? = some (.int .i64 61)) := hmd
        have MS14 : Hid (Ms w W14 w.heap.size (txO t a n c) (.slice aB nA cB) (.slice aQ nR cQ) A R) := MS13.out.on s14 FP.out
        have OC14 : Hid (W14.ownsRow ba 38 12 (.slice aC (nA + 2) cC) (nA + 2) (xc ++ two62)) := row_kept OC.out s14 (fun k hk e => by
          obtain ⟨-, cur, h2⟩ := row_block OC.out hk
          obtain ⟨xs, h3, -⟩ := MK13.out
          obtain ⟨-, cur2, h4⟩ := row_block h3 e
          exact types_ne h2 h4 (by decide))
        rw [← show nD = nR + 2 from ED.out]
        clear od hxd hmd s14 s13 MS13 MK13 OC AP2
        obtain ⟨⟨p0, p1, p2, p3, p4, p5, p6, p7⟩, -⟩ := tx_obj MS14.out.bt
        have hl := lt_of_heap MS14.out.bt
        go_wp2_with fail
        refine Calls.mono (HDS.out _ MS14.out.kp) ?_
        rintro e W15 ⟨v15, rfl, o15, k15⟩
        obtain ⟨aW, cW, ev⟩ := own_pos o15
        subst ev
        rw [← show nA = _ from EA.out]
        have OW : Hid (OwnL W14.heap.size W15 (.slice aW nA cW) A) := by rw [show nA = _ from EA.out]; exact o15
        have MS15 : Hid (Ms w W15 w.heap.size (txO t a n c) (.slice aB nA cB) (.slice aQ nR cQ) A R) := MS14.out.kept k15
        have K1415 : Hid (Kept W14 W15) := k15
        clear p0 p1 p2 p3 p4 p5 p6 p7 hl o15 k15
        obtain ⟨⟨p0, p1, p2, p3, p4, p5, p6, p7⟩, -⟩ := tx_obj MS15.out.bt
        have hl := lt_of_heap MS15.out.bt
        go_wp2_with fail
        refine Calls.mono (HDR.out _ MS15.out.kp) ?_
        rintro e W16 ⟨v16, rfl, o16, k16⟩
        obtain ⟨aM, cM, ev⟩ := own_pos o16
        subst ev
        have RM : Hid (Rw.RowsAt W16 aM R) := (own_rows o16).2
        rw [← show nR = _ from ER.out]
        have MS16 : Hid (Ms w W16 w.heap.size (txO t a n c) (.slice aB nA cB) (.slice aQ nR cQ) A R) := MS15.out.kept k16
        have OW16 : Hid (OwnL W14.heap.size W16 (.slice aW nA cW) A) := row_kept OW.out k16 (fun _ _ e => e)
        have K1416 : Hid (Kept W14 W16) := K1415.out.trans' k16
        clear p0 p1 p2 p3 p4 p5 p6 p7 hl o16 k16 OW MS14 MS15 K1415
        go_wp2_with fail
        refine Calls.mono (same16 W16 aB aW nA cB cW A MS16.out.b OW16.out EA.out (by have h1 := hnA4.out; omega)) ?_
        rintro e W17 ⟨rfl, k17⟩
        have K1417 : Hid (Kept W14 W17) := K1416.out.trans' k17
        have MS17 : Hid (Ms w W17 w.heap.size (txO t a n c) (.slice aB nA cB) (.slice aQ nR cQ) A R) := MS16.out.kept k17
        have RM17 : Hid (Rw.RowsAt W17 aM R) := RM.out.on k17
        have RQ17 : Hid (Rw.RowsAt W17 aQ R) := (own_rows MS17.out.q).2
        have OC17 : Hid (W17.ownsRow ba 38 12 (.slice aC (nA + 2) cC) (nA + 2) (xc ++ two62)) := row_kept OC14.out K1417.out (fun _ _ e => e)
        have OD17 : Hid (W17.ownsRow bp 40 7 (.slice aD (nR + 2) cD) (nR + 2) (xd ++ two63)) := row_kept OD.out K1417.out (fun _ _ e => e)
        clear k17 RM OW16 MS16 K1416 OC14 OD MSM SHM WMX MJ
        obtain ⟨gd, ed⟩ : ∃ gd, aD = some ⟨gd, 0, none⟩ ∧ ∀ j u, (xd ++ two63)[j]? = some u → gd < W17.heap.size ∧ W17.cell? ⟨gd, j, none⟩ = some u := by
          obtain ⟨b, e, -, -, -⟩ := row_cell OD17.out (j := nR * 7) (u := .int .i64 63) (by rw [List.getElem?_append_right (by rw [HXD.out]; exact Nat.le_refl _), HXD.out, Nat.sub_self]; rfl)
          refine ⟨b, e, fun j u hu => ?_⟩
          obtain ⟨b', e', -, h1, h2⟩ := row_cell OD17.out hu
          rw [e] at e'
          cases e'
          exact ⟨h1, h2⟩
        obtain ⟨ed, hgd⟩ := ed
        subst ed
        have HGD : Hid (∀ j u, (xd ++ two63)[j]? = some u → gd < W17.heap.size ∧ W17.cell? ⟨gd, j, none⟩ = some u) := hgd
        clear hgd
        go_wp2_with fail
        go_loopw [140] (fun s140 wr => ∃ j : Nat, s140 = .int .i64 j ∧ j ≤ nR ∧ Kept W17 wr) (fun s140 _ => nR - (intOf s140).toNat)
        case atStart => exact ⟨0, rfl, Nat.zero_le _, Same.refl _ _⟩
        case round =>
          clear d1
          obtain ⟨j, rfl, hj, kj⟩ := hrel
          rename World => WN
          have KL : Hid (Kept W17 WN) := kj
          clear kj
          by_cases hlt : j < nR
          case pos =>
            have d1 : decide ((j : Int) < (nR : Int)) = true := decide_eq_true (by omega)
            have hlt2 : (j : Int) < (nR : Int) := by omega
            have hltD : j < nD := by have := ED.out; omega
            have hltD2 : (j : Int) < (nD : Int) := by omega
            have hws : IntKind.i64.wrap ((j : Int) + 1) = (j : Int) + 1 := by have h1 := hnR3.out; rw [IntKind.wrap_i64] <;> omega
            obtain ⟨r, hr⟩ : ∃ r, R[j]? = some r := ⟨_, List.getElem?_eq_getElem (by rw [← show nR = _ from ER.out]; exact hlt)⟩
            obtain ⟨lb, lo, ea, hlb, q0, q1, q2, q3, q4, q5, q6⟩ := (RQ17.out.on KL.out) j r hr
            subst ea
            obtain ⟨mb, mo, ea, hmb, -⟩ := RM17.out j r hr
            subst ea
            have NQ : Hid (∀ W, _) := fun W => neq_same r W
            have HMB : Hid (∀ W', Kept W17 W' → _) := fun W' (k' : Kept W17 W') => (RM17.out.on k') j r hr
            have HDJ : Hid (gd < W17.heap.size ∧ W17.cell? ⟨gd, j * 7, none⟩ = some (.int .i64 61)) := HGD.out (j * 7) _ (by rw [List.getElem?_append_left (by rw [HXD.out]; omega)]; exact HMD.out j hlt)
            clear hr
            go_upto_region 31 with fail
            have GB : Hid (_ = some (rwO r 40)) := heap_new WN (rwO r 40)
            have KG : Hid (Kept W17 (WN.alloc (rwO r 40))) := KL.out.alloc _
            generalize WN.alloc (rwO r 40) = W21 at *
            generalize hgg : WN.heap.size = g21 at *
            clear q0 q1 q2 q3 q4 q5 q6 hlb hgg
            obtain ⟨rkind, rtime, rseq, rindex, rfrm, rtil, rbody⟩ := r
            unfold Rw.rowV at NQ
            simp only at NQ
            have HBX : Hid (∀ W', Kept W21 W' → Kept W21 W' ∧ (W'.cell? ⟨g21, 0, none⟩ = some (.int .i64 rkind) ∧ W'.cell? ⟨g21, 1, none⟩ = some (.int .i64 rtime) ∧ W'.cell? ⟨g21, 2, none⟩ = some (.int .i64 rseq) ∧ W'.cell? ⟨g21, 3, none⟩ = some (.int .i64 rindex) ∧ W'.cell? ⟨g21, 4, none⟩ = some (.int .i64 rfrm) ∧ W'.cell? ⟨g21, 5, none⟩ = some (.int .i64 rtil) ∧ W'.cell? ⟨g21, 6, none⟩ = some (.string rbody)) ∧ (W'.cell? ⟨mb, mo + j * 7, none⟩ = some (.int .i64 rkind) ∧ W'.cell? ⟨mb, mo + j * 7 + 1, none⟩ = some (.int .i64 rtime) ∧ W'.cell? ⟨mb, mo + j * 7 + 2, none⟩ = some (.int .i64 rseq) ∧ W'.cell? ⟨mb, mo + j * 7 + 3, none⟩ = some (.int .i64 rindex) ∧ W'.cell? ⟨mb, mo + j * 7 + 4, none⟩ = some (.int .i64 rfrm) ∧ W'.cell? ⟨mb, mo + j * 7 + 5, none⟩ = some (.int .i64 rtil) ∧ W'.cell? ⟨mb, mo + j * 7 + 6, none⟩ = some (.string rbody)) ∧ W'.cell? ⟨gd, j * 7, none⟩ = some (.int .i64 61)) := fun W' k' => ⟨k', row7 ((k'.block _ (lt_of_heap GB.out) (fun e => e)).trans GB.out), (by
              obtain ⟨b, o, e, -, x0, x1, x2, x3, x4, x5, x6⟩ := HMB.out W' (KG.out.trans' k')
              cases e
              exact ⟨x0, x1, x2, x3, x4, x5, x6⟩), ((KG.out.trans' k').cell (p := ⟨gd, j * 7, none⟩) HDJ.out.1 (fun e => e)).trans HDJ.out.2⟩
            have PL6 : Hid (∀ W, Kept W21 W → Calls _ _ _ _ fun e w' => _ ∧ Kept W21 w') := fun W (kw : Kept W21 W) => Calls.mono (plainf rkind rtime rseq rindex rfrm rtil rbody W) (fun e w' hh => ⟨hh.1, kw.trans' hh.2⟩)
            have nq : ∀ W, (binOp .neq 46 (.agg #[.int .i64 rkind, .int .i64 rtime, .int .i64 rseq, .int .i64 rindex, .int .i64 rfrm, .int .i64 rtil, .string rbody]) (.agg #[.int .i64 rkind, .int .i64 rtime, .int .i64 rseq, .int .i64 rindex, .int .i64 rfrm, .int .i64 rtil, .string rbody])).run Try.prog W = .ok (.bool false) W := NQ.out
            have hg6 := lt_of_heap GB.out
            have hmb6 : mb < W21.heap.size := Nat.lt_of_lt_of_le hmb KG.out.size
            have hgd6 : gd < W21.heap.size := Nat.lt_of_lt_of_le HDJ.out.1 KG.out.size
            obtain ⟨-, ⟨x0, x1, x2, x3, x4, x5, x6⟩, ⟨y0, y1, y2, y3, y4, y5, y6⟩, y7⟩ := HBX.out W21 (Same.refl _ _)
            go_cut [159] (fun s159 wx => s159 = .bool false ∧ Kept W21 wx)
            case first =>
              go_region_held3 (fun w' => Kept W21 w' ∧ (w'.cell? ⟨g21, 0, none⟩ = some (.int .i64 rkind) ∧ w'.cell? ⟨g21, 1, none⟩ = some (.int .i64 rtime) ∧ w'.cell? ⟨g21, 2, none⟩ = some (.int .i64 rseq) ∧ w'.cell? ⟨g21, 3, none⟩ = some (.int .i64 rindex) ∧ w'.cell? ⟨g21, 4, none⟩ = some (.int .i64 rfrm) ∧ w'.cell? ⟨g21, 5, none⟩ = some (.int .i64 rtil) ∧ w'.cell? ⟨g21, 6, none⟩ = some (.string rbody)) ∧ (w'.cell? ⟨mb, mo + j * 7, none⟩ = some (.int .i64 rkind) ∧ w'.cell? ⟨mb, mo + j * 7 + 1, none⟩ = some (.int .i64 rtime) ∧ w'.cell? ⟨mb, mo + j * 7 + 2, none⟩ = some (.int .i64 rseq) ∧ w'.cell? ⟨mb, mo + j * 7 + 3, none⟩ = some (.int .i64 rindex) ∧ w'.cell? ⟨mb, mo + j * 7 + 4, none⟩ = some (.int .i64 rfrm) ∧ w'.cell? ⟨mb, mo + j * 7 + 5, none⟩ = some (.int .i64 rtil) ∧ w'.cell? ⟨mb, mo + j * 7 + 6, none⟩ = some (.string rbody)) ∧ w'.cell? ⟨gd, j * 7, none⟩ = some (.int .i64 61))
                (exact HBX.out _ (by (repeat (first | assumption | exact Same.refl _ _ | apply Same.alloc | apply Same.drew | apply Same.drewN)); done))
                ((go_at_call 13; refine Calls.mono (PL6.out _ (by (repeat (first | assumption | exact Same.refl _ _ | apply Same.alloc | apply Same.drew | apply Same.drewN)); done)) ?_; rintro r wq ⟨rfl, kx⟩))
              all_goals
                go_wp2_with fail
                go_meet
                exact ⟨rfl, (by (repeat (first | assumption | exact Same.refl _ _ | apply Same.alloc | apply Same.drew | apply Same.drewN)); done)⟩
            case rest =>
              obtain ⟨rfl, kc⟩ := hcut
              have KC : Hid (Kept W17 wc) := KG.out.trans' kc
              clear kc
              go_wp2_with fail
              go_roundw
              case rel => exact ⟨j + 1, by simp, hlt, KC.out⟩
              case measure => simp only [intOf]; omega
          obtain rfl : nR = j := by omega
          have d1 : decide ((nR : Int) < (nR : Int)) = false := decide_eq_false (by omega)
          have KF : Hid (Kept w WN) := MS17.out.kp.trans' KL.out
          have cD : WN.cell? ⟨gd, nR * 7, none⟩ = some (.int .i64 63) := by
            obtain ⟨h1, h2⟩ := HGD.out (nR * 7) (.int .i64 63) (by rw [List.getElem?_append_right (by rw [HXD.out]; exact Nat.le_refl _), HXD.out, Nat.sub_self]; rfl)
            exact (KL.out.cell (p := ⟨gd, nR * 7, none⟩) h1 (fun e => e)).trans h2
          obtain ⟨gc, ec, hgc, cC1⟩ : ∃ gc, aC = some ⟨gc, 0, none⟩ ∧ gc < WN.heap.size ∧ WN.cell? ⟨gc, nA * 12, none⟩ = some (.int .i64 62) := by
            obtain ⟨b, e, -, h1, h2⟩ := row_cell OC17.out (j := nA * 12) (u := .int .i64 62) (by rw [List.getElem?_append_right (by rw [HXC.out]; exact Nat.le_refl _), HXC.out, Nat.sub_self]; rfl)
            exact ⟨b, e, Nat.lt_of_lt_of_le h1 KL.out.size, (KL.out.cell (p := ⟨b, nA * 12, none⟩) h1 (fun e => e)).trans h2⟩
          subst ec
          have hgd9 : gd < WN.heap.size := by
            obtain ⟨h1, -⟩ := HGD.out (nR * 7) (.int .i64 63) (by rw [List.getElem?_append_right (by rw [HXD.out]; exact Nat.le_refl _), HXD.out, Nat.sub_self]; rfl)
            exact Nat.lt_of_lt_of_le h1 KL.out.size
          have hA2 : (nA : Int) + 2 = (nC : Int) := by have := EC.out; omega
          have hwA : IntKind.i64.wrap (nC : Int) = (nC : Int) := by have h1 := EC.out; have h2 := hnA4.out; rw [IntKind.wrap_i64] <;> omega
          have l1 : nA < nC := by have := EC.out; omega
          have l2 : (nA : Int) < (nC : Int) := by omega
          have l3 : nR < nD := by have := ED.out; omega
          have l4 : (nR : Int) < (nD : Int) := by omega
          have be : ((nC : Int) == (nC : Int)) = true := by simp
          go_wp2_with fail
          go_ret
          exact ⟨rfl, KF.out⟩
end Go.Proofs.Ytbjmdpfoeeadeab.Sw
