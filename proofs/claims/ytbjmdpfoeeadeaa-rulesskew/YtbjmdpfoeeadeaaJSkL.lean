/- What is proved: the law RulesSkew answers true and leaves all that was there as it was; the transaction fits a machine's memory. -/
import Derived.Test.YtbjmdpfoeeadeaaJSkP
import Derived.Test.YtbjmdpfoeeadeaaJAnc
import Derived.Test.YtbjmdpfoeeadeaaRRVal
import Derived.Test.YtbjmdpfoeeadeaaRCopy
import Derived.BigRegion
namespace Go.Proofs.Ytbjmdpfoeeadeaa.Sw
open Go.RowKit

/-- Lay a list of violations, and what it is. -/
theorem Sh_own (i : Int) (t : TxM) (eps : Int) {base : Nat} (a : Option Addr) (c : Nat) (W : World) (hr : Right t) (hi : i = 0) (he : 0 ≤ eps ∧ eps ≤ 1099511627776) (ho : OwnO base W (.slice a t.ops.length c) t.ops) :
    Calls Try.prog 10 #[.int .i64 i, txV t (.slice a t.ops.length c), .int .i64 eps] W fun e w' => ∃ a' c', e = .returned (.tuple #[.slice a' (shp 0 t eps).length c', .int .i64 0]) ∧ OwnL W.heap.size w' (.slice a' (shp 0 t eps).length c') (shp 0 t eps) ∧ Kept W w' := by
  subst hi
  refine (Shape17 0 t eps a c W (fun W2 k2 => OwnO.txa (OwnO.on ho k2))).mono ?_
  rintro e w' ⟨v, rfl, o, k⟩
  rw [lis_ok hr he] at o
  obtain ⟨a', c', ev, -⟩ := row_shape o
  subst ev
  exact ⟨a', c', by rw [cod_ok hr he], o, k⟩
theorem own_len {base : Nat} {w : World} {a : Option Addr} {n c : Nat} {l : List Vl} (h : OwnL base w (.slice a n c) l) : n = l.length := by
  obtain ⟨a', c', e, -⟩ := row_shape h
  injection e
theorem tx_four {W : World} {gu : Nat} {t : TxM} {a : Option Addr} {n c : Nat} (h : W.heap[gu]? = some (txO t a n c)) (d : Int) : ((((W.setCell ⟨gu, 2, none⟩ (.int .i64 (t.f2 + d))).setCell ⟨gu, 3, none⟩ (.int .i64 (t.f3 + d))).setCell ⟨gu, 4, none⟩ (.int .i64 (t.f4 + d))).setCell ⟨gu, 5, none⟩ (.int .i64 (t.f5 + d))).drew.heap[gu]? = some (txO (onT t d) a n c) ∧
    Same (fun k => k = gu) W ((((W.setCell ⟨gu, 2, none⟩ (.int .i64 (t.f2 + d))).setCell ⟨gu, 3, none⟩ (.int .i64 (t.f3 + d))).setCell ⟨gu, 4, none⟩ (.int .i64 (t.f4 + d))).setCell ⟨gu, 5, none⟩ (.int .i64 (t.f5 + d))).drew :=
  ⟨(setCell_at (setCell_at (setCell_at (setCell_at h 2 _) 3 _) 4 _) 5 _).trans (by simp [onT]), (((((Same.refl (fun k => k = gu) W).setCell _ (.inr rfl) _).setCell _ (.inr rfl) _).setCell _ (.inr rfl) _).setCell _ (.inr rfl) _).drew⟩
set_option maxRecDepth 100000 in
set_option maxHeartbeats 6400000 in
theorem skew_law (t : TxM) (eps more shift : Int) (a : Option Addr) (c : Nat) (w : World) (h : ArgT w t a c) :
    Calls Try.prog 5 #[txV t (.slice a t.ops.length c), .int .i64 eps, .int .i64 more, .int .i64 shift] w fun e w' => e = .returned (.bool true) ∧ Kept w w' := by
  have HA : Hid (∀ W, _) := fun W => anchor17 W
  have HV : Hid (∀ W, Kept w W → _) := fun W k => validR_any W t _ (h.on k).txa
  have HC : Hid (∀ W, Kept w W → _) := fun W k => copy_any W t a c (h.on k)
  have HS : Hid (∀ e : Int, Right t → (0 ≤ e ∧ e ≤ 1099511627776) → ∀ W base a' c', OwnO base W (.slice a' t.ops.length c') t.ops → _) := fun e hr he W base a' c' (ho : OwnO base W (.slice a' t.ops.length c') t.ops) => Sh_own 0 t e a' c' W hr rfl he ho
  have HU : Hid (∀ d : Int, Right (onT t d) → (0 ≤ eps ∧ eps ≤ 1099511627776) → ∀ W base a' c', OwnO base W (.slice a' t.ops.length c') t.ops → _) := fun d hr he W base a' c' (ho : OwnO base W (.slice a' t.ops.length c') t.ops) => Sh_own 0 (onT t d) eps a' c' W hr rfl he ho
  generalize hn : t.ops.length = n at *
  clear h
  unfold txV at HV HC HS HU ⊢
  go_enter Try.func5, Try.ntmps5
  go_wp2_with fail
  refine Calls.mono (HA.out _) ?_
  rintro e W1 ⟨rfl, k1⟩
  have hb : W1.heap[w.heap.size]? = some (txO t a n c) := (k1.block _ (by simp [World.size_alloc]) (fun e => e)).trans (heap_new _ _)
  have K1 : Hid (Kept w W1) := ((Same.refl _ w).alloc _).trans' k1
  have HB : Hid (W1.heap[w.heap.size]? = some (txO t a n c)) := hb
  obtain ⟨⟨p0, p1, p2, p3, p4, p5, p6, p7⟩, -⟩ := tx_obj hb
  have hl := lt_of_heap hb
  clear hb k1
  go_wp2_with fail
  refine Calls.mono (HV.out _ K1.out) ?_
  rintro e W2 ⟨rfl, k2⟩
  have K2 : Hid (Kept w W2) := K1.out.trans' k2
  have HB2 : Hid (W2.heap[w.heap.size]? = some (txO t a n c)) := (k2.block _ (lt_of_heap HB.out) (fun e => e)).trans HB.out
  clear k2 p0 p1 p2 p3 p4 p5 p6 p7 hl HA HV
  by_cases hv : valid t = 0
  case neg =>
    have dv : (valid t != 0) = true := by simpa using hv
    clear HC HS HU
    generalize valid t = vt at *
    go_wp2_with fail
    go_ret
    exact ⟨rfl, K2.out⟩
  have hr : Hid (Right t) := valid_zero.1 hv
  rw [hv]
  clear hv
  have z0 : ((0 : Int) != 0) = false := rfl
  by_cases e1 : eps < 0
  · have dde1 : decide (eps < 0) = true := decide_eq_true e1
    clear HC HS HU
    go_wp2_with fail
    go_ret
    exact ⟨rfl, K2.out⟩
  have dde1 : decide (eps < 0) = false := decide_eq_false e1
  by_cases e2 : 1099511627776 < eps
  · have dde2 : decide (1099511627776 < eps) = true := decide_eq_true e2
    clear HC HS HU
    go_wp2_with fail
    go_ret
    exact ⟨rfl, K2.out⟩
  have dde2 : decide (1099511627776 < eps) = false := decide_eq_false e2
  by_cases e3 : more < 0
  · have dde3 : decide (more < 0) = true := decide_eq_true e3
    clear HC HS HU
    go_wp2_with fail
    go_ret
    exact ⟨rfl, K2.out⟩
  have dde3 : decide (more < 0) = false := decide_eq_false e3
  have hws : IntKind.i64.wrap (1099511627776 - eps) = 1099511627776 - eps := by rw [IntKind.wrap_i64] <;> omega
  by_cases e4 : 1099511627776 - eps < more
  · have dde4 : decide (1099511627776 - eps < more) = true := decide_eq_true e4
    clear HC HS HU
    go_wp2_with fail
    go_ret
    exact ⟨rfl, K2.out⟩
  have dde4 : decide (1099511627776 - eps < more) = false := decide_eq_false e4
  by_cases e5 : shift < 0
  · have dde5 : decide (shift < 0) = true := decide_eq_true e5
    clear HC HS HU
    go_wp2_with fail
    go_ret
    exact ⟨rfl, K2.out⟩
  have dde5 : decide (shift < 0) = false := decide_eq_false e5
  by_cases e6 : 549755813888 < shift
  · have dde6 : decide (549755813888 < shift) = true := decide_eq_true e6
    clear HC HS HU
    go_wp2_with fail
    go_ret
    exact ⟨rfl, K2.out⟩
  have dde6 : decide (549755813888 < shift) = false := decide_eq_false e6
  have FT : Hid (0 ≤ eps ∧ 0 ≤ more ∧ eps + more ≤ 1099511627776 ∧ 0 ≤ shift ∧ shift ≤ 549755813888) := ⟨by omega, by omega, by omega, by omega, by omega⟩
  have HSa : Hid (∀ W base a' c', OwnO base W (.slice a' n c') t.ops → _) := HS.out eps hr.out (by have := FT.out; omega)
  have HSb : Hid (∀ W base a' c', OwnO base W (.slice a' n c') t.ops → _) := HS.out (eps + more) hr.out (by have := FT.out; omega)
  have HSc : Hid (∀ W base a' c', OwnO base W (.slice a' n c') t.ops → _) := HS.out 1099511627776 hr.out (by omega)
  have KZ : Hid (kkS t eps more 0 = 0) := kk_zero t eps more
  have KL : Hid (∀ j, kkS t eps more j ≤ 4) := kk_le t eps more
  have KA : Hid (kkS t eps more (shp 0 t eps).length = (shp 0 t (eps + more)).length) := kk_all t eps more FT.out.2.1
  have KS : Hid (∀ {j : Nat} {v : Vl}, (shp 0 t eps)[j]? = some v → _) := fun {j v} => kk_step t eps more FT.out.2.1
  have MC : Hid (∀ v ∈ shp 0 t 1099511627776, v.kd = 1 ∨ v.kd = 2) := fun v hv => shp_most hr.out.1 hv
  have SB : Hid (∀ v ∈ shp 0 t eps, _) := fun v hv => shp_bound hr.out.1 hv
  have SO : Hid (shp 0 (onT t shift) eps = (shp 0 t eps).map (onV shift)) := shp_on t eps shift
  have LA : Hid ((shp 0 t eps).length ≤ 4) := shp_len 0 t eps
  have LB : Hid ((shp 0 t (eps + more)).length ≤ 4) := shp_len 0 t (eps + more)
  have LC : Hid ((shp 0 t 1099511627776).length ≤ 4) := shp_len 0 t 1099511627776
  have hwa : IntKind.i64.wrap (eps + more) = eps + more := by have h1 := FT.out; rw [IntKind.wrap_i64] <;> omega
  clear HS
  obtain ⟨⟨p0, p1, p2, p3, p4, p5, p6, p7⟩, -⟩ := tx_obj HB2.out
  have hl := lt_of_heap HB2.out
  go_upto_region 5 with fail
  clear dde1 dde2 dde3 dde4 dde5 dde6 e1 e2 e3 e4 e5 e6 hws z0
  generalize kkS t eps more = kk at *
  generalize hA : shp 0 t eps = A at *
  generalize shp 0 t (eps + more) = B at *
  generalize shp 0 t 1099511627776 = C at *
  generalize hem : eps + more = em at *
  clear hA
  obtain ⟨nA, eA⟩ : ∃ x, x = A.length := ⟨_, rfl⟩
  obtain ⟨nB, eB⟩ : ∃ x, x = B.length := ⟨_, rfl⟩
  obtain ⟨nC, eC⟩ : ∃ x, x = C.length := ⟨_, rfl⟩
  have EA : Hid (nA = A.length) := eA
  have EB : Hid (nB = B.length) := eB
  have EC : Hid (nC = C.length) := eC
  rw [← eA] at HSa
  rw [← eB] at HSb
  rw [← eC] at HSc
  clear eA eB eC
  go_wp2_with fail
  refine Calls.mono (HC.out _ K2.out) ?_
  rintro e W3 ⟨a2, c2, rfl, o2, k2⟩
  have K3 : Hid (Kept w W3) := K2.out.trans' k2
  have HB3 : Hid (W3.heap[w.heap.size]? = some (txO t a n c)) := (k2.block _ (lt_of_heap HB2.out) (fun e => e)).trans HB2.out
  have O2 : Hid (OwnO W2.heap.size W3 (.slice a2 n c2) t.ops) := o2
  clear o2 k2 p0 p1 p2 p3 p4 p5 p6 p7 hl
  go_wp2_with fail
  refine Calls.mono (HSa.out _ _ _ _ O2.out) ?_
  rintro e W4 ⟨aA, cA, rfl, oA, kA⟩
  have K4 : Hid (Kept w W4) := K3.out.trans' kA
  have HB4 : Hid (W4.heap[w.heap.size]? = some (txO t a n c)) := (kA.block _ (lt_of_heap HB3.out) (fun e => e)).trans HB3.out
  have OA : Hid (OwnL W3.heap.size W4 (.slice aA nA cA) A) := oA
  obtain ⟨⟨p0, p1, p2, p3, p4, p5, p6, p7⟩, -⟩ := tx_obj HB4.out
  have hl := lt_of_heap HB4.out
  clear oA kA O2
  go_wp2_with fail
  refine Calls.mono (HC.out _ K4.out) ?_
  rintro e W5 ⟨a4, c4, rfl, o4, k4⟩
  have K5 : Hid (Kept w W5) := K4.out.trans' k4
  have HB5 : Hid (W5.heap[w.heap.size]? = some (txO t a n c)) := (k4.block _ (lt_of_heap HB4.out) (fun e => e)).trans HB4.out
  have O4 : Hid (OwnO W4.heap.size W5 (.slice a4 n c4) t.ops) := o4
  have OA' : Hid (OwnL _ W5 (.slice aA nA cA) A) := row_kept OA.out k4 (fun _ _ e => e)
  clear OA
  have OA := OA'
  clear OA'
  clear o4 k4 p0 p1 p2 p3 p4 p5 p6 p7 hl
  go_wp2_with fail
  refine Calls.mono (HSb.out _ _ _ _ O4.out) ?_
  rintro e W6 ⟨aB, cB, rfl, oB, kB⟩
  have K6 : Hid (Kept w W6) := K5.out.trans' kB
  have HB6 : Hid (W6.heap[w.heap.size]? = some (txO t a n c)) := (kB.block _ (lt_of_heap HB5.out) (fun e => e)).trans HB5.out
  have OB : Hid (OwnL W5.heap.size W6 (.slice aB nB cB) B) := oB
  have OA' : Hid (OwnL _ W6 (.slice aA nA cA) A) := row_kept OA.out kB (fun _ _ e => e)
  clear OA
  have OA := OA'
  clear OA'
  obtain ⟨⟨p0, p1, p2, p3, p4, p5, p6, p7⟩, -⟩ := tx_obj HB6.out
  have hl := lt_of_heap HB6.out
  clear oB kB O4
  go_wp2_with fail
  refine Calls.mono (HC.out _ K6.out) ?_
  rintro e W7 ⟨a6, c6, rfl, o6, k6⟩
  have K7 : Hid (Kept w W7) := K6.out.trans' k6
  have HB7 : Hid (W7.heap[w.heap.size]? = some (txO t a n c)) := (k6.block _ (lt_of_heap HB6.out) (fun e => e)).trans HB6.out
  have O6 : Hid (OwnO W6.heap.size W7 (.slice a6 n c6) t.ops) := o6
  have OA' : Hid (OwnL _ W7 (.slice aA nA cA) A) := row_kept OA.out k6 (fun _ _ e => e)
  clear OA
  have OA := OA'
  clear OA'
  have OB' : Hid (OwnL _ W7 (.slice aB nB cB) B) := row_kept OB.out k6 (fun _ _ e => e)
  clear OB
  have OB := OB'
  clear OB'
  clear o6 k6 p0 p1 p2 p3 p4 p5 p6 p7 hl
  go_wp2_with fail
  refine Calls.mono (HSc.out _ _ _ _ O6.out) ?_
  rintro e W8 ⟨aC, cC, rfl, oC, kC⟩
  have K8 : Hid (Kept w W8) := K7.out.trans' kC
  have HB8 : Hid (W8.heap[w.heap.size]? = some (txO t a n c)) := (kC.block _ (lt_of_heap HB7.out) (fun e => e)).trans HB7.out
  have OC : Hid (OwnL W7.heap.size W8 (.slice aC nC cC) C) := oC
  have OA' : Hid (OwnL _ W8 (.slice aA nA cA) A) := row_kept OA.out kC (fun _ _ e => e)
  clear OA
  have OA := OA'
  clear OA'
  have OB' : Hid (OwnL _ W8 (.slice aB nB cB) B) := row_kept OB.out kC (fun _ _ e => e)
  clear OB
  have OB := OB'
  clear OB'
  obtain ⟨⟨p0, p1, p2, p3, p4, p5, p6, p7⟩, -⟩ := tx_obj HB8.out
  have hl := lt_of_heap HB8.out
  clear oC kC O6
  clear p0 p1 p2 p3 p4 p5 p6 p7 hl
  go_wp2_with fail
  go_loopw [15, 90] (fun s15 s90 wr => ∃ j : Nat, s90 = .int .i64 j ∧ j ≤ nA ∧ s15 = .int .i64 (kk j : Nat) ∧ Kept W8 wr) (fun _ s90 _ => nA - (intOf s90).toNat)
  case atStart => exact ⟨0, rfl, Nat.zero_le _, by rw [KZ.out]; rfl, Same.refl _ _⟩
  case round =>
    obtain ⟨j, rfl, hj, rfl, kj⟩ := hrel
    rename World => WL
    have KW : Hid (Kept W8 WL) := kj
    clear kj
    by_cases hlt : j < nA
    · have d1 : decide ((j : Int) < (nA : Int)) = true := decide_eq_true (by omega)
      have hlt2 : (j : Int) < (nA : Int) := by omega
      have hA4 : Hid (nA ≤ 4) := by have h1 := LA.out; have h2 := EA.out; show nA ≤ 4; omega
      have hws : IntKind.i64.wrap ((j : Int) + 1) = (j : Int) + 1 := by have h1 := hA4.out; rw [IntKind.wrap_i64] <;> omega
      obtain ⟨x, hx⟩ : ∃ x, A[j]? = some x := ⟨_, List.getElem?_eq_getElem (by rw [← show nA = _ from EA.out]; exact hlt)⟩
      have HX : Hid (A[j]? = some x) := hx
      obtain ⟨ba, ea, hba, q0, q1, q2, q3, q4, q5, q6, q7, q8, q9, q10, q11⟩ := own_at (row_kept OA.out KW.out (fun _ _ e => e)) hx
      subst ea
      clear hx
      go_upto_region 14 with fail
      have GB : Hid _ := heap_new WL (vlO x)
      have KB : Hid (Kept W8 (WL.alloc (vlO x))) := KW.out.alloc _
      generalize WL.alloc (vlO x) = W9 at *
      generalize WL.heap.size = g9 at GB ⊢
      clear q0 q1 q2 q3 q4 q5 q6 q7 q8 q9 q10 q11 hba
      have y0 : W9.cell? ⟨g9, 0, none⟩ = some (.int .i64 x.kd) := (cell_of GB.out 0).trans rfl
      have y1 : W9.cell? ⟨g9, 1, none⟩ = some (.int .i64 x.tm) := (cell_of GB.out 1).trans rfl
      have y2 : W9.cell? ⟨g9, 2, none⟩ = some (.int .i64 x.tx) := (cell_of GB.out 2).trans rfl
      have y3 : W9.cell? ⟨g9, 3, none⟩ = some (.int .i64 x.op) := (cell_of GB.out 3).trans rfl
      have y4 : W9.cell? ⟨g9, 4, none⟩ = some (.int .i64 x.wi) := (cell_of GB.out 4).trans rfl
      have y5 : W9.cell? ⟨g9, 5, none⟩ = some (.string x.key) := (cell_of GB.out 5).trans rfl
      have y6 : W9.cell? ⟨g9, 6, none⟩ = some (.bool x.wa) := (cell_of GB.out 6).trans rfl
      have y7 : W9.cell? ⟨g9, 7, none⟩ = some (.string x.ex) := (cell_of GB.out 7).trans rfl
      have y8 : W9.cell? ⟨g9, 8, none⟩ = some (.bool x.go) := (cell_of GB.out 8).trans rfl
      have y9 : W9.cell? ⟨g9, 9, none⟩ = some (.string x.ob) := (cell_of GB.out 9).trans rfl
      have y10 : W9.cell? ⟨g9, 10, none⟩ = some (.int .i64 x.fr) := (cell_of GB.out 10).trans rfl
      have y11 : W9.cell? ⟨g9, 11, none⟩ = some (.int .i64 x.tt) := (cell_of GB.out 11).trans rfl
      have hg9 := lt_of_heap GB.out
      have OB9 : Hid (OwnL _ W9 (.slice aB nB cB) B) := row_kept OB.out KB.out (fun _ _ e => e)
      have KJ : Hid _ := KS.out HX.out
      have hk4 := KL.out j
      generalize hkk : kk j = k at *
      have hwk : IntKind.i64.wrap ((k : Int) + 1) = (k : Int) + 1 := by rw [IntKind.wrap_i64] <;> omega
      have HKK : Hid (kk j = k) := hkk
      clear hkk hk4
      rcases KJ.out with ⟨hb1, hb2⟩ | ⟨hb1, hb2, hb3⟩
      · have hkB : k < nB := by rw [show nB = _ from EB.out]; exact (List.getElem?_eq_some_iff.1 hb1).1
        have dk : decide ((k : Int) < (nB : Int)) = true := decide_eq_true (by omega)
        have dk2 : (k : Int) < (nB : Int) := by omega
        obtain ⟨bb, eb, hbb, q0, q1, q2, q3, q4, q5, q6, q7, q8, q9, q10, q11⟩ := own_at OB9.out hb1
        have HB2 : Hid (kk (j + 1) = k + 1) := hb2
        clear hb1 hb2 KJ
        cases eb
        go_quiet (fail)
        go_wp2_with fail
        go_roundw
        case rel => exact ⟨j + 1, by simp, hlt, by rw [HB2.out]; simp, (by (repeat (first | exact KB.out | apply Same.drew | apply Same.drewN)); done)⟩
        case measure => simp only [intOf]; omega
      · have HB2 : Hid (kk (j + 1) = k) := hb1
        have HK34 : Hid (x.kd = 3 ∨ x.kd = 4) := hb2
        go_cut [105] (fun s105 wx => s105 = .bool false ∧ Kept W8 wx ∧ wx.cell? ⟨g9, 0, none⟩ = some (.int .i64 x.kd) ∧ g9 < wx.heap.size)
        case first =>
          by_cases hkB : k < nB
          · have dk : decide ((k : Int) < (nB : Int)) = true := decide_eq_true (by omega)
            have dk2 : (k : Int) < (nB : Int) := by omega
            obtain ⟨z, hz⟩ : ∃ z, B[k]? = some z := ⟨_, List.getElem?_eq_getElem (by rw [← show nB = _ from EB.out]; exact hkB)⟩
            obtain ⟨bb, eb, hbb, q0, q1, q2, q3, q4, q5, q6, q7, q8, q9, q10, q11⟩ := own_at OB9.out hz
            have hne : (z.kd == x.kd) = false := by rw [beq_eq_false_iff_ne]; exact hb3 z hz
            have hne2 : ¬ z.kd = x.kd := hb3 z hz
            clear hb1 hb2 hb3 KJ hz
            cases eb
            go_quiet (fail)
            go_wp2_with fail
            go_meet
            exact ⟨by simp, (by (repeat (first | exact KB.out | apply Same.drew | apply Same.drewN)); done), by first | exact y0 | simpa using y0, by first | exact hg9 | simpa using hg9⟩
          · have dk : decide ((k : Int) < (nB : Int)) = false := decide_eq_false (by omega)
            have dk2 : ¬ (k : Int) < (nB : Int) := by omega
            clear hb1 hb2 hb3 KJ
            go_quiet (fail)
            go_wp2_with fail
            go_meet
            exact ⟨rfl, (by (repeat (first | exact KB.out | apply Same.drew | apply Same.drewN)); done), by first | exact y0 | simpa using y0, by first | exact hg9 | simpa using hg9⟩
        case rest =>
          obtain ⟨rfl, kc, hc0, hc1⟩ := hcut
          have KC : Hid (Kept W8 wc) := kc
          clear kc hb1 hb2 hb3 KJ y0 y1 y2 y3 y4 y5 y6 y7 y8 y9 y10 y11
          rcases HK34.out with h34 | h34
          · rw [h34] at hc0
            clear h34
            go_wp2_with fail
            go_roundw
            case rel => exact ⟨j + 1, by simp, hlt, by rw [HB2.out], KC.out⟩
            case measure => simp only [intOf]; omega
          · rw [h34] at hc0
            clear h34
            go_wp2_with fail
            go_roundw
            case rel => exact ⟨j + 1, by simp, hlt, by rw [HB2.out], KC.out⟩
            case measure => simp only [intOf]; omega
    · obtain rfl : nA = j := by omega
      have d1 : decide ((nA : Int) < (nA : Int)) = false := decide_eq_false (by omega)
      have hkn : Hid (kk nA = nB) := by show kk nA = nB; rw [EA.out, KA.out, EB.out]
      rw [hkn.out]
      go_wp2_with fail
      go_loopw [123] (fun s123 wr => ∃ j : Nat, s123 = .int .i64 j ∧ j ≤ nC ∧ Kept W8 wr) (fun s123 _ => nC - (intOf s123).toNat)
      case atStart => exact ⟨0, rfl, Nat.zero_le _, KW.out⟩
      case round =>
        clear KW d1
        obtain ⟨j, rfl, hj, kj⟩ := hrel
        rename World => WM
        have KW : Hid (Kept W8 WM) := kj
        clear kj
        by_cases hlt : j < nC
        · have d1 : decide ((j : Int) < (nC : Int)) = true := decide_eq_true (by omega)
          have hlt2 : (j : Int) < (nC : Int) := by omega
          have hC4 : Hid (nC ≤ 4) := by have h1 := LC.out; have h2 := EC.out; show nC ≤ 4; omega
          have hws : IntKind.i64.wrap ((j : Int) + 1) = (j : Int) + 1 := by have h1 := hC4.out; rw [IntKind.wrap_i64] <;> omega
          obtain ⟨x, hx⟩ : ∃ x, C[j]? = some x := ⟨_, List.getElem?_eq_getElem (by rw [← show nC = _ from EC.out]; exact hlt)⟩
          have hk := MC.out x (List.mem_of_getElem? hx)
          obtain ⟨ba, ea, hba, q0, q1, q2, q3, q4, q5, q6, q7, q8, q9, q10, q11⟩ := own_at (row_kept OC.out KW.out (fun _ _ e => e)) hx
          subst ea
          clear hx
          rcases hk with hk | hk
          · rw [hk] at q0
            clear hk
            go_wp2_with fail
            go_roundw
            case rel => exact ⟨j + 1, by simp, hlt, KW.out.alloc _⟩
            case measure => simp only [intOf]; omega
          · rw [hk] at q0
            clear hk
            go_wp2_with fail
            go_roundw
            case rel => exact ⟨j + 1, by simp, hlt, KW.out.alloc _⟩
            case measure => simp only [intOf]; omega
        · obtain rfl : nC = j := by omega
          have d1 : decide ((nC : Int) < (nC : Int)) = false := decide_eq_false (by omega)
          have hb : WM.heap[w.heap.size]? = some (txO t a n c) := (KW.out.block _ (lt_of_heap HB8.out) (fun e => e)).trans HB8.out
          have KM : Hid (Kept w WM) := K8.out.trans' KW.out
          have HBM : Hid (WM.heap[w.heap.size]? = some (txO t a n c)) := hb
          have OA9 : Hid (OwnL _ WM (.slice aA nA cA) A) := row_kept OA.out KW.out (fun _ _ e => e)
          obtain ⟨⟨p0, p1, p2, p3, p4, p5, p6, p7⟩, -⟩ := tx_obj hb
          have hl := lt_of_heap hb
          clear hb KW
          go_wp2_with fail
          refine Calls.mono (HC.out _ KM.out) ?_
          rintro e W10 ⟨aU, cU, rfl, oU, kU⟩
          have OU : Hid (OwnO WM.heap.size W10 (.slice aU n cU) t.ops) := oU
          have HB10 : Hid (W10.heap[w.heap.size]? = some (txO t a n c)) := (kU.block _ (lt_of_heap HBM.out) (fun e => e)).trans HBM.out
          have KU : Hid (Kept w W10) := KM.out.trans' kU
          have OA10 : Hid (OwnL _ W10 (.slice aA nA cA) A) := row_kept OA9.out kU (fun _ _ e => e)
          clear p0 p1 p2 p3 p4 p5 p6 p7 hl oU kU
          go_upto_region 28 with fail
          have GU : Hid _ := heap_new W10 (txO t aU n cU)
          have KX : Hid (Kept W10 (W10.alloc (txO t aU n cU))) := (Same.refl _ _).alloc _
          generalize W10.alloc (txO t aU n cU) = W11 at *
          generalize hgu : W10.heap.size = gu at GU ⊢
          have hb : W11.heap[w.heap.size]? = some (txO t a n c) := (KX.out.block _ (lt_of_heap HB10.out) (fun e => e)).trans HB10.out
          have KU11 : Hid (Kept w W11) := KU.out.trans' KX.out
          have HB11 : Hid (W11.heap[w.heap.size]? = some (txO t a n c)) := hb
          obtain ⟨⟨p0, p1, p2, p3, p4, p5, p6, p7⟩, -⟩ := tx_obj hb
          have hl := lt_of_heap hb
          have hgw : Hid (w.heap.size < gu) := by have := lt_of_heap HB10.out; show w.heap.size < gu; omega
          have OA11 : Hid (OwnL _ W11 (.slice aA nA cA) A) := row_kept OA10.out KX.out (fun _ _ e => e)
          have HGU : Hid (W10.heap.size = gu) := hgu
          have OU11 : Hid (OwnO WM.heap.size W11 (.slice aU n cU) t.ops) := OwnO.on OU.out KX.out
          clear hb hgu
          by_cases x2 : 549755813888 < t.f2
          · have ddx2 : decide (549755813888 < t.f2) = true := decide_eq_true x2
            go_wp2_with fail
            go_ret
            exact ⟨rfl, KU11.out⟩
          have ddx2 : decide (549755813888 < t.f2) = false := decide_eq_false x2
          by_cases x3 : 549755813888 < t.f3
          · have ddx3 : decide (549755813888 < t.f3) = true := decide_eq_true x3
            go_wp2_with fail
            go_ret
            exact ⟨rfl, KU11.out⟩
          have ddx3 : decide (549755813888 < t.f3) = false := decide_eq_false x3
          by_cases x4 : 549755813888 < t.f4
          · have ddx4 : decide (549755813888 < t.f4) = true := decide_eq_true x4
            go_wp2_with fail
            go_ret
            exact ⟨rfl, KU11.out⟩
          have ddx4 : decide (549755813888 < t.f4) = false := decide_eq_false x4
          by_cases x5 : 549755813888 < t.f5
          · have ddx5 : decide (549755813888 < t.f5) = true := decide_eq_true x5
            go_wp2_with fail
            go_ret
            exact ⟨rfl, KU11.out⟩
          have ddx5 : decide (549755813888 < t.f5) = false := decide_eq_false x5
          have RU : Hid (Right (onT t shift)) := right_on hr.out ⟨FT.out.2.2.2.1, FT.out.2.2.2.2⟩ (by omega) (by omega) (by omega) (by omega)
          have hbt := hr.out.1
          obtain ⟨-, -, b2, b3, b4, b5, -⟩ := hbt
          unfold inB at b2 b3 b4 b5
          have ft := FT.out
          have w2 : IntKind.i64.wrap (t.f2 + shift) = t.f2 + shift := by rw [IntKind.wrap_i64] <;> omega
          have w3 : IntKind.i64.wrap (t.f3 + shift) = t.f3 + shift := by rw [IntKind.wrap_i64] <;> omega
          have w4 : IntKind.i64.wrap (t.f4 + shift) = t.f4 + shift := by rw [IntKind.wrap_i64] <;> omega
          have w5 : IntKind.i64.wrap (t.f5 + shift) = t.f5 + shift := by rw [IntKind.wrap_i64] <;> omega
          clear b2 b3 b4 b5 ft
          go_upto_region 30 with fail
          clear ddx2 ddx3 ddx4 ddx5 x2 x3 x4 x5
          obtain ⟨⟨g0, g1, g2, g3, g4, g5, g6, g7⟩, y0, y1, y2, y3, y4, y5, y6, y7⟩ := tx_obj GU.out
          have hlu := lt_of_heap GU.out
          have hne : ¬ w.heap.size = gu := by have := hgw.out; omega
          have hne2 : ¬ gu = w.heap.size := by have := hgw.out; omega
          go_cut [172] (fun _ wx => wx.heap[gu]? = some (txO (onT t shift) aU n cU) ∧ Same (fun k => k = gu) W11 wx)
          case first =>
            go_region
            all_goals
              go_wp2_with fail
              go_meet
              exact tx_four GU.out shift
          case rest =>
            obtain ⟨hu, su⟩ := hcut
            have SU : Hid (Same (fun k => k = gu) W11 wc) := su
            have HUc : Hid (wc.heap[gu]? = some (txO (onT t shift) aU n cU)) := hu
            have OUc : Hid (OwnO WM.heap.size wc (.slice aU n cU) t.ops) := OwnO.kept OU11.out su (fun k hk e => by
              obtain ⟨-, cur, hc⟩ := row_block OU11.out hk
              exact types_ne (e ▸ hc) GU.out (by decide))
            have OAc : Hid (OwnL _ wc (.slice aA nA cA) A) := row_kept OA11.out su (fun k hk e => by
              obtain ⟨-, cur, hc⟩ := row_block OA11.out hk
              exact types_ne (e ▸ hc) GU.out (by decide))
            have KUc : Hid (Kept w wc) := KU11.out.trans su (fun k hk e => by have := hgw.out; omega)
            clear g0 g1 g2 g3 g4 g5 g6 g7 y0 y1 y2 y3 y4 y5 y6 y7 p0 p1 p2 p3 p4 p5 p6 p7 hl su hlu
            have hlu := lt_of_heap hu
            obtain ⟨⟨g0, g1, g2, g3, g4, g5, g6, g7⟩, -⟩ := tx_obj hu
            clear hu
            have HD : Hid _ := HU.out shift RU.out (by have := FT.out; omega) wc _ _ _ OUc.out
            rw [SO.out, List.length_map, ← show nA = A.length from EA.out] at HD
            clear HU
            unfold onT at g2 g3 g4 g5
            unfold onT at HD
            simp only [hn] at HD g0 g1 g2 g3 g4 g5 g6 g7
            go_wp2_with fail
            refine Calls.mono HD.out ?_
            rintro e W12 ⟨aD, cD, rfl, oD, kD⟩
            have OD : Hid (OwnL wc.heap.size W12 (.slice aD nA cD) (A.map (onV shift))) := oD
            have OA12 : Hid (OwnL _ W12 (.slice aA nA cA) A) := row_kept OAc.out kD (fun _ _ e => e)
            have K12 : Hid (Kept w W12) := KUc.out.trans' kD
            clear oD kD g0 g1 g2 g3 g4 g5 g6 g7 hlu HD
            go_wp2_with fail
            go_loopw [193] (fun s193 wr => ∃ j : Nat, s193 = .int .i64 j ∧ j ≤ nA ∧ Kept W12 wr) (fun s193 _ => nA - (intOf s193).toNat)
            case atStart => exact ⟨0, rfl, Nat.zero_le _, Same.refl _ _⟩
            case round =>
              obtain ⟨j, rfl, hj, kj⟩ := hrel
              rename World => WN
              have KW : Hid (Kept W12 WN) := kj
              clear kj
              by_cases hlt : j < nA
              · have d1 : decide ((j : Int) < (nA : Int)) = true := decide_eq_true (by omega)
                have hlt2 : (j : Int) < (nA : Int) := by omega
                have hA4 : Hid (nA ≤ 4) := by have h1 := LA.out; have h2 := EA.out; show nA ≤ 4; omega
                have hws : IntKind.i64.wrap ((j : Int) + 1) = (j : Int) + 1 := by have h1 := hA4.out; rw [IntKind.wrap_i64] <;> omega
                obtain ⟨x, hx⟩ : ∃ x, A[j]? = some x := ⟨_, List.getElem?_eq_getElem (by rw [← show nA = _ from EA.out]; exact hlt)⟩
                have HX : Hid ((A.map (onV shift))[j]? = some (onV shift x)) := by show (A.map (onV shift))[j]? = _; rw [List.getElem?_map, hx]; rfl
                have hbx := SB.out x (List.mem_of_getElem? hx)
                have ft := FT.out
                have v1 : IntKind.i64.wrap (x.tm + shift) = x.tm + shift := by rw [IntKind.wrap_i64] <;> omega
                have v2 : IntKind.i64.wrap (x.fr + shift) = x.fr + shift := by rw [IntKind.wrap_i64] <;> omega
                have v3 : IntKind.i64.wrap (x.tt + shift) = x.tt + shift := by rw [IntKind.wrap_i64] <;> omega
                obtain ⟨ba, ea, hba, q0, q1, q2, q3, q4, q5, q6, q7, q8, q9, q10, q11⟩ := own_at (row_kept OA12.out KW.out (fun _ _ e => e)) hx
                subst ea
                clear hx hbx ft
                go_upto_region 38 with fail
                have GB : Hid _ := heap_new WN (vlO (onV shift x))
                have KB : Hid (Kept W12 (WN.alloc (vlO (onV shift x)))) := KW.out.alloc _
                change Code.wp _ _ _ _ (WN.alloc (vlO (onV shift x)))
                generalize WN.alloc (vlO (onV shift x)) = W13 at *
                generalize WN.heap.size = g13 at GB ⊢
                clear q0 q1 q2 q3 q4 q5 q6 q7 q8 q9 q10 q11 hba
                obtain ⟨bd, ed, hbd, q0, q1, q2, q3, q4, q5, q6, q7, q8, q9, q10, q11⟩ := own_at (row_kept OD.out KB.out (fun _ _ e => e)) HX.out
                subst ed
                unfold onV at q0 q1 q2 q3 q4 q5 q6 q7 q8 q9 q10 q11
                simp only at q0 q1 q2 q3 q4 q5 q6 q7 q8 q9 q10 q11
                have y0 : W13.cell? ⟨g13, 0, none⟩ = some (.int .i64 x.kd) := (cell_of GB.out 0).trans rfl
                have y1 : W13.cell? ⟨g13, 1, none⟩ = some (.int .i64 (x.tm + shift)) := (cell_of GB.out 1).trans rfl
                have y2 : W13.cell? ⟨g13, 2, none⟩ = some (.int .i64 x.tx) := (cell_of GB.out 2).trans rfl
                have y3 : W13.cell? ⟨g13, 3, none⟩ = some (.int .i64 x.op) := (cell_of GB.out 3).trans rfl
                have y4 : W13.cell? ⟨g13, 4, none⟩ = some (.int .i64 x.wi) := (cell_of GB.out 4).trans rfl
                have y5 : W13.cell? ⟨g13, 5, none⟩ = some (.string x.key) := (cell_of GB.out 5).trans rfl
                have y6 : W13.cell? ⟨g13, 6, none⟩ = some (.bool x.wa) := (cell_of GB.out 6).trans rfl
                have y7 : W13.cell? ⟨g13, 7, none⟩ = some (.string x.ex) := (cell_of GB.out 7).trans rfl
                have y8 : W13.cell? ⟨g13, 8, none⟩ = some (.bool x.go) := (cell_of GB.out 8).trans rfl
                have y9 : W13.cell? ⟨g13, 9, none⟩ = some (.string x.ob) := (cell_of GB.out 9).trans rfl
                have y10 : W13.cell? ⟨g13, 10, none⟩ = some (.int .i64 (x.fr + shift)) := (cell_of GB.out 10).trans rfl
                have y11 : W13.cell? ⟨g13, 11, none⟩ = some (.int .i64 (x.tt + shift)) := (cell_of GB.out 11).trans rfl
                have hg13 := lt_of_heap GB.out
                clear v1 v2 v3
                go_quiet (fail)
                go_wp2_with fail
                go_roundw
                case rel => exact ⟨j + 1, by simp, hlt, (by (repeat (first | exact KB.out | apply Same.drew | apply Same.drewN)); done)⟩
                case measure => simp only [intOf]; omega
              · obtain rfl : nA = j := by omega
                have d1 : decide ((nA : Int) < (nA : Int)) = false := decide_eq_false (by omega)
                go_wp2_with fail
                go_ret
                exact ⟨rfl, K12.out.trans' KW.out⟩
end Go.Proofs.Ytbjmdpfoeeadeaa.Sw
