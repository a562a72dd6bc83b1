/- What is proved: the document's Rows gives of a transaction, right or not, the same rows as the package's, and the law RulesRows answers true; the transaction fits a machine's memory. -/
import Derived.Test.YtbjmdpfoeeadeaaJRow
import Derived.Test.YtbjmdpfoeeadeaaRRBody
import Derived.Test.YtbjmdpfoeeadeaaRRVal
import Derived.Test.YtbjmdpfoeeadeaaRCopy
namespace Go.Proofs.Ytbjmdpfoeeadeaa.Sw
open Go.RowKit

set_option maxRecDepth 100000 in
set_option maxHeartbeats 3200000 in
theorem rrows17 (i : Int) (t : TxM) (a : Option Addr) (c : Nat) (w : World) (ht : ∀ W, Kept w W → TxA W t (txV t (.slice a t.ops.length c))) :
    Calls Try.prog 15 #[.int .i64 i, txV t (.slice a t.ops.length c)] w fun e w' => ∃ v, e = .returned (.tuple #[v, .int .i64 (codR i t)]) ∧ Rw.OwnQ w.heap.size w' v (lisR i t) ∧ Kept w w' := by
  have HV : Hid (∀ W, Kept w W → _) := fun W k => validR_any W t _ (ht W k)
  have HY : Hid (∀ W, Kept w W → Right t → _) := fun W k h => body_ref W t _ (ht W k) h
  have HSD : Hid (∀ W, _) := fun W => rsound17 t a t.ops.length c W
  have HSS : Hid (∀ W, _) := fun W => ses17 i t a t.ops.length c W
  have EZ : Hid (∀ z : Int, z ≠ 0 → codR i t = z → lisR i t = []) := fun z hz h => by unfold lisR; rw [if_neg (by omega)]
  have EO : Hid (codR i t = 0 → lisR i t = rwsR i t) := fun h => by unfold lisR; rw [if_pos h]
  generalize hn : t.ops.length = n at *
  by_cases hi1 : i < 0
  · have ec : codR i t = 170 := by unfold codR; rw [if_pos (by omega)]
    rw [EZ.out 170 (by decide) ec, ec]
    have d1 : decide (i < 0) = true := decide_eq_true hi1
    clear HV HY HSD HSS EZ EO ec hn
    unfold txV
    go_enter Try.func15, Try.ntmps15
    go_wp2_with fail
    go_ret2
    exact ⟨_, rfl, Rw.OwnQ.nil _ _, (Same.refl _ w).alloc _⟩
  have d1 : decide (i < 0) = false := decide_eq_false hi1
  by_cases hi2 : 4095 < i
  · have ec : codR i t = 170 := by unfold codR; rw [if_pos (by omega)]
    rw [EZ.out 170 (by decide) ec, ec]
    have d2 : decide (4095 < i) = true := decide_eq_true hi2
    clear HV HY HSD HSS EZ EO ec hn
    unfold txV
    go_enter Try.func15, Try.ntmps15
    go_wp2_with fail
    go_ret2
    exact ⟨_, rfl, Rw.OwnQ.nil _ _, (Same.refl _ w).alloc _⟩
  have d2 : decide (4095 < i) = false := decide_eq_false hi2
  have ec : codR i t = valid t := by unfold codR; rw [if_neg (by omega)]
  by_cases hv : valid t = 0
  case neg =>
    have dv : (valid t != 0) = true := by simpa using hv
    rw [EZ.out _ hv ec, ec]
    clear HY HSD HSS EZ EO ec hn
    generalize valid t = cv at *
    unfold txV at HV ⊢
    go_enter Try.func15, Try.ntmps15
    go_wp2_with fail
    refine Calls.mono (HV.out _ ((Same.refl _ w).alloc _)) ?_
    rintro e W1 ⟨rfl, k1⟩
    have K1 : Hid (Kept w W1) := ((Same.refl _ w).alloc _).trans' k1
    clear k1
    go_wp2_with fail
    go_ret2
    exact ⟨_, rfl, Rw.OwnQ.nil _ _, K1.out⟩
  rw [EO.out (ec.trans hv), ec, hv]
  have HR : Hid (Right t) := valid_zero.1 hv
  rw [hv] at HV
  have HY' : Hid (∀ W, Kept w W → _) := fun W k => HY.out W k HR.out
  clear HY EZ EO ec hn hv
  unfold txV at HV HY' HSD HSS ⊢
  unfold Rw.rowV sesR at HSS
  go_enter Try.func15, Try.ntmps15
  go_wp2_with fail
  refine Calls.mono (HV.out _ ((Same.refl _ w).alloc _)) ?_
  rintro e W1 ⟨rfl, k1⟩
  have K1 : Hid (Kept w W1) := ((Same.refl _ w).alloc _).trans' k1
  have HB1 : Hid (W1.heap[w.heap.size]? = some (txO t a n c)) := (k1.block _ (by simp [World.size_alloc]) (fun e => e)).trans (heap_new _ _)
  obtain ⟨⟨p0, p1, p2, p3, p4, p5, p6, p7⟩, -⟩ := tx_obj HB1.out
  have hl := lt_of_heap HB1.out
  clear k1
  go_wp2_with fail
  refine Calls.mono (HSS.out _) ?_
  rintro e W2 ⟨rfl, k2⟩
  have K2 : Hid (Kept w W2) := K1.out.trans' k2
  have HB2 : Hid (W2.heap[w.heap.size]? = some (txO t a n c)) := (k2.block _ (lt_of_heap HB1.out) (fun e => e)).trans HB1.out
  clear k2 p0 p1 p2 p3 p4 p5 p6 p7 hl
  obtain ⟨⟨p0, p1, p2, p3, p4, p5, p6, p7⟩, -⟩ := tx_obj HB2.out
  have hl := lt_of_heap HB2.out
  go_upto_region 7 with fail
  have KS : Hid (Kept W2 (W2.alloc (rwO (sesR i t) 43))) := (Same.refl _ _).alloc _
  have GS : Hid _ := heap_new W2 (rwO (sesR i t) 43)
  change Code.wp _ _ _ _ (W2.alloc (rwO (sesR i t) 43))
  generalize W2.alloc (rwO (sesR i t) 43) = W3 at *
  have HG : Hid (w.heap.size ≤ W2.heap.size) := K2.out.size
  generalize W2.heap.size = g3 at GS HG ⊢
  have HB3 : Hid (W3.heap[w.heap.size]? = some (txO t a n c)) := (KS.out.block _ (lt_of_heap HB2.out) (fun e => e)).trans HB2.out
  clear p0 p1 p2 p3 p4 p5 p6 p7 hl
  obtain ⟨⟨p0, p1, p2, p3, p4, p5, p6, p7⟩, -⟩ := tx_obj HB3.out
  have hl := lt_of_heap HB3.out
  go_wp2_with fail
  refine Calls.mono (HSD.out _) ?_
  rintro e W4 ⟨rfl, k4⟩
  have K4 : Hid (Kept w W4) := (K2.out.trans' KS.out).trans' k4
  have OS : Hid (Rw.OwnQ w.heap.size W4 (.slice (some ⟨g3, 0, none⟩) 1 1) [sesR i t]) := row_base (own_row1 ((k4.block _ (lt_of_heap GS.out) (fun e => e)).trans GS.out)) HG.out
  have HB4 : Hid (W4.heap[w.heap.size]? = some (txO t a n c)) := (k4.block _ (lt_of_heap HB3.out) (fun e => e)).trans HB3.out
  clear p0 p1 p2 p3 p4 p5 p6 p7 hl k4
  obtain ⟨⟨p0, p1, p2, p3, p4, p5, p6, p7⟩, -⟩ := tx_obj HB4.out
  have hl := lt_of_heap HB4.out
  by_cases hs : t.f2 < t.f3
  case neg =>
    have ds : decide (t.f2 < t.f3) = false := decide_eq_false hs
    have er : rwsR i t = [sesR i t] := by unfold rwsR; rw [if_neg hs]
    have ER : Hid _ := er
    clear er
    go_wp2_with fail
    go_ret2
    rw [ER.out]
    exact ⟨_, rfl, OS.out, K4.out⟩
  have ds : decide (t.f2 < t.f3) = true := decide_eq_true hs
  have er : rwsR i t = [sesR i t] ++ [staR i t] ++ [endR i t] := by unfold rwsR; rw [if_pos hs]; rfl
  have ER : Hid _ := er
  clear er
  go_wp2_with fail
  refine Calls.mono (HY'.out _ K4.out) ?_
  rintro e W5 ⟨u5, rfl, o5, k5⟩
  obtain ⟨au, cu, eu, bu, -⟩ := BytesAt.of_row o5
  subst eu
  have K5 : Hid (Kept w W5) := K4.out.trans' k5
  have OS5 : Hid (Rw.OwnQ w.heap.size W5 (.slice (some ⟨g3, 0, none⟩) 1 1) [sesR i t]) := row_kept OS.out k5 (fun _ _ e => e)
  have HB5 : Hid (W5.heap[w.heap.size]? = some (txO t a n c)) := (k5.block _ (lt_of_heap HB4.out) (fun e => e)).trans HB4.out
  have OB5 : Hid (OwnB W4.heap.size W5 (.slice au (body t).length cu) (body t)) := o5
  obtain ⟨bb, bo, ea⟩ : ∃ b o, au = some ⟨b, o, none⟩ := by
    have h8 := (body_len HR.out).2
    obtain ⟨b, o, e, -⟩ := bu 0 _ (List.getElem?_eq_getElem (by omega))
    exact ⟨b, o, e⟩
  subst ea
  clear p0 p1 p2 p3 p4 p5 p6 p7 hl k5 o5 bu
  obtain ⟨⟨p0, p1, p2, p3, p4, p5, p6, p7⟩, -⟩ := tx_obj HB5.out
  have hl := lt_of_heap HB5.out
  have APQ : Hid (∀ W (v : Value) (xs : List Rw.RwM) (r : Rw.RwM), Rw.OwnQ w.heap.size W v xs → xs.length ≤ 3 → Kept w W → ∀ ty, ∃ v' w', (Builtin.append_ #[38, 38] ty #[v, .slice (some ⟨W.heap.size, 0, none⟩) 1 1]).run Try.prog (W.alloc (rwO r 43)) = .ok v' w' ∧ Rw.OwnQ w.heap.size w' v' (xs ++ [r]) ∧ Same (fun k => v.ownBlock = some k) W w') := fun W v xs r ho hx hk ty => by
    have hk2 : Kept W (W.alloc (rwO r 43)) := (Same.refl _ _).alloc _
    obtain ⟨v', w', r1, r2, r3, -⟩ := Rw.app_q r (row_kept ho hk2 (fun _ _ h => h)) (heap_new W _) (by omega) (by rw [World.size_alloc]; have := hk.size; omega) ty
    exact ⟨v', w', r1, r2, (Kept.to hk2 _).trans' r3⟩
  have AP1 : Hid _ := APQ.out W5 _ _ (staR i t) OS5.out (by simp) K5.out
  go_wp2_with (at_builtin; apply Hid.out)
  refine Ch.wpList_app rfl (.tmp 28) (.tmp 33) 38 rfl (.slice (some ⟨g3, 0, none⟩) 1 1) (.slice (some ⟨W5.heap.size, 0, none⟩) 1 1) rfl rfl _ AP1.out ?_
  rintro v6 W6 ⟨o6, s6⟩
  obtain ⟨a6, m6, c6, ev⟩ : ∃ a m c, v6 = .slice a m c := by
    obtain ⟨a, c, ev, -⟩ := row_shape o6
    exact ⟨_, _, _, ev⟩
  subst ev
  have nb : ∀ {base W xs} {v : Value}, Rw.OwnQ base W v xs → w.heap.size ≤ base → W.heap[w.heap.size]? = some (txO t a n c) → ∀ k, v.ownBlock = some k → w.heap.size ≤ k ∧ k ≠ w.heap.size := fun ho hb ht k hk => by
    obtain ⟨hb2, cur, hc⟩ := row_block ho hk
    exact ⟨Nat.le_trans hb hb2, fun e => types_ne (e ▸ hc) ht (by decide)⟩
  have n5 := nb OS5.out (Nat.le_refl _) HB5.out
  have K6 : Hid (Kept w W6) := K5.out.trans s6 (fun k hk e => by have := (n5 k e).1; omega)
  have HB6 : Hid (W6.heap[w.heap.size]? = some (txO t a n c)) := (s6.block _ (lt_of_heap HB5.out) (fun e => (n5 _ e).2 rfl)).trans HB5.out
  have OB6 : Hid (OwnB W4.heap.size W6 (.slice (some ⟨bb, bo, none⟩) (body t).length cu) (body t)) := row_kept OB5.out s6 (fun k hk e => by
    obtain ⟨-, cur, hc⟩ := row_block OB5.out hk
    obtain ⟨-, cur2, hc2⟩ := row_block OS5.out e
    exact types_ne hc hc2 (by decide))
  have O6 : Hid (Rw.OwnQ w.heap.size W6 (.slice a6 m6 c6) ([sesR i t] ++ [staR i t])) := o6
  have hcv : (convert 71 9 (.slice (some ⟨bb, bo, none⟩) (body t).length cu)).run Try.prog W6 = .ok (.string (strOfNums (body t))) W6 := by
    obtain ⟨a9, c9, e9, b9, -⟩ := BytesAt.of_row OB6.out
    cases e9
    exact convert_bytes b9
  have AP2 : Hid _ := APQ.out W6 _ _ (endR i t) O6.out (by simp) K6.out
  clear p0 p1 p2 p3 p4 p5 p6 p7 hl n5 o6 s6 AP1 APQ
  obtain ⟨⟨p0, p1, p2, p3, p4, p5, p6, p7⟩, -⟩ := tx_obj HB6.out
  have hl := lt_of_heap HB6.out
  have NB : Hid _ := nb O6.out (Nat.le_refl _) HB6.out
  clear nb
  unfold endR at AP2
  unfold endR at ER
  generalize body t = bt at *
  generalize hbl : bt.length = bl at *
  clear hbl
  generalize strOfNums bt = sb at *
  go_wp2_with (at_builtin; apply Hid.out)
  refine Ch.wpList_app rfl (.tmp 35) (.tmp 42) 38 rfl (.slice a6 m6 c6) (.slice (some ⟨W6.heap.size, 0, none⟩) 1 1) rfl rfl _ AP2.out ?_
  rintro v7 W7 ⟨o7, s7⟩
  obtain ⟨a7, m7, c7, ev⟩ : ∃ a m c, v7 = .slice a m c := by
    obtain ⟨a, c, ev, -⟩ := row_shape o7
    exact ⟨_, _, _, ev⟩
  subst ev
  have K7 : Hid (Kept w W7) := K6.out.trans s7 (fun k hk e => by have := (NB.out k e).1; omega)
  have O7 : Hid _ := o7
  clear o7 s7 AP2 NB p0 p1 p2 p3 p4 p5 p6 p7 hl
  go_wp2_with fail
  go_ret2
  rw [ER.out]
  exact ⟨_, rfl, O7.out, K7.out⟩

theorem own_rows {base : Nat} {w : World} {e : TypeId} {a : Option Addr} {m cap : Nat} {l : List Rw.RwM} (h : w.ownsRow base e 7 (.slice a m cap) l.length (Rw.rwc l)) : m = l.length ∧ Rw.RowsAt w a l := by
  obtain ⟨a', c', ev, -, -, hg⟩ := row_shape h
  have em : m = l.length := by injection ev
  refine ⟨em, fun i r hr => ?_⟩
  have hc : ∀ j, j < 7 → ∀ u, (Rw.rc1 r)[j]? = some u → ∃ b, a = some ⟨b, 0, none⟩ ∧ base ≤ b ∧ b < w.heap.size ∧ w.cell? ⟨b, i * 7 + j, none⟩ = some u := fun j hj u hu => row_cell h ((Rw.rwc_get hr j hj).trans hu)
  obtain ⟨b, rfl, -, hb, c0⟩ := hc 0 (by omega) _ rfl
  have g' : ∀ k, k < 7 → ∀ u, (Rw.rc1 r)[k]? = some u → w.cell? ⟨b, i * 7 + k, none⟩ = some u := fun k hk u hu => by
    obtain ⟨b', e, -, -, c⟩ := hc k hk u hu
    injection e with e
    injection e with e
    rw [e]
    exact c
  have z : ∀ k, 0 + i * 7 + k = i * 7 + k := fun k => by omega
  have z0 : 0 + i * 7 = i * 7 := by omega
  exact ⟨b, 0, rfl, hb, by rw [z0]; exact c0, by rw [z]; exact g' 1 (by omega) _ rfl, by rw [z]; exact g' 2 (by omega) _ rfl, by rw [z]; exact g' 3 (by omega) _ rfl, by rw [z]; exact g' 4 (by omega) _ rfl, by rw [z]; exact g' 5 (by omega) _ rfl, by rw [z]; exact g' 6 (by omega) _ rfl⟩
end Go.Proofs.Ytbjmdpfoeeadeaa.Sw
