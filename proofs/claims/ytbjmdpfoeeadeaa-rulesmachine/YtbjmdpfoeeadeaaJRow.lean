/- What is proved: Rows of the package gives of a transaction, right or not, the rows that the document says, in a list of its own; no condition. -/
import Derived.Test.YtbjmdpfoeeadeaaJWlk
import Derived.Test.YtbjmdpfoeeadeaaNRef
namespace Go.Proofs.Ytbjmdpfoeeadeaa.Sw
open Go.RowKit

def sesR (i : Int) (t : TxM) : Rw.RwM := ⟨3, t.f0, t.f1, i, t.f2, t.f3, ⟨#[]⟩⟩
def staR (i : Int) (t : TxM) : Rw.RwM := ⟨2, t.f2, 0, i, 0, 0, ⟨#[]⟩⟩
def endR (i : Int) (t : TxM) : Rw.RwM := ⟨1, t.f3, 0, i, 0, 0, strOfNums (body t)⟩
/-- The rows of a right transaction. -/
def rwsR (i : Int) (t : TxM) : List Rw.RwM := sesR i t :: (if t.f2 < t.f3 then [staR i t, endR i t] else [])
def codR (i : Int) (t : TxM) : Int := if ¬ (0 ≤ i ∧ i < 4096) then 170 else valid t
def lisR (i : Int) (t : TxM) : List Rw.RwM := if codR i t = 0 then rwsR i t else []
theorem rwsR_len (i : Int) (t : TxM) : (rwsR i t).length ≤ 3 := by unfold rwsR; split <;> simp
theorem codR_zero {i : Int} {t : TxM} (h : codR i t = 0) : (0 ≤ i ∧ i < 4096) ∧ Right t := by
  unfold codR at h
  split at h
  · omega
  · rename_i h1
    exact ⟨by omega, valid_zero.1 h⟩
theorem str_body {t : TxM} (hr : Right t) : (strOfNums (body t)).size ≤ 512 := by
  have h1 := body_len hr
  rw [strOfNums_size]
  omega
/-- Each of them is right. -/
theorem rows_right {i : Int} {t : TxM} (hi : 0 ≤ i ∧ i < 4096) (hr : Right t) {r : Rw.RwM} (h : r ∈ rwsR i t) : Rw.rightR r := by
  obtain ⟨⟨b0, b1, b2, b3, b4, b5, b6⟩, -⟩ := id hr
  have hs := str_body hr
  unfold inB at b0 b1 b2 b3
  unfold rwsR at h
  rcases List.mem_cons.1 h with rfl | h
  · refine ⟨by show (1 : Int) ≤ 3 ∧ (3 : Int) ≤ 3; omega, ?_, ?_, ?_, ?_, ?_, by show (0 : Nat) ≤ 512; omega⟩ <;> (unfold inB sesR; simp only; omega)
  · split at h
    · rcases List.mem_cons.1 h with rfl | h
      · refine ⟨by show (1 : Int) ≤ 2 ∧ (2 : Int) ≤ 3; omega, ?_, ?_, ?_, ?_, ?_, by show (0 : Nat) ≤ 512; omega⟩ <;> (unfold inB staR; simp only; omega)
      · rcases List.mem_cons.1 h with rfl | h
        · refine ⟨by show (1 : Int) ≤ 1 ∧ (1 : Int) ≤ 3; omega, ?_, ?_, ?_, ?_, ?_, hs⟩ <;> (unfold inB endR; simp only; omega)
        · simp at h
    · simp at h
theorem convert_bytes {w : World} {b off c : Nat} {l : List Int} (h : BytesAt w (some ⟨b, off, none⟩) l) : (convert 71 9 (.slice (some ⟨b, off, none⟩) l.length c)).run Try.prog w = .ok (.string (strOfNums l)) w :=
  run_convert_bytes_arg (P := Try.prog) w 71 5 Try.underlying71 Try.underlying5 b off l.length c l rfl (fun i hi => by
    obtain ⟨b', off', e, _, hc⟩ := h i _ (List.getElem?_eq_getElem hi)
    cases e
    rw [hc]
    simp [List.getD, List.getElem?_eq_getElem hi]) 9 Try.underlying9
/-- Two rows that lie in one block. -/
theorem two_rows {w : World} {b : Nat} {ty : TypeId} {r s : Rw.RwM} (h : w.heap[b]? = some (.cells #[.int .i64 r.kind, .int .i64 r.time, .int .i64 r.seq, .int .i64 r.index, .int .i64 r.frm, .int .i64 r.til, .string r.body, .int .i64 s.kind, .int .i64 s.time, .int .i64 s.seq, .int .i64 s.index, .int .i64 s.frm, .int .i64 s.til, .string s.body] ty (0, 0))) : Rw.RowsAt w (some ⟨b, 0, none⟩) [r, s] := fun i x hx => by
  cases i with
  | zero =>
    simp only [List.getElem?_cons_zero, Option.some.injEq] at hx
    subst hx
    exact ⟨b, 0, rfl, lt_of_heap h, (cell_of h 0).trans rfl, (cell_of h 1).trans rfl, (cell_of h 2).trans rfl, (cell_of h 3).trans rfl, (cell_of h 4).trans rfl, (cell_of h 5).trans rfl, (cell_of h 6).trans rfl⟩
  | succ i =>
    cases i with
    | zero =>
      simp only [List.getElem?_cons_succ, List.getElem?_cons_zero, Option.some.injEq] at hx
      subst hx
      exact ⟨b, 0, rfl, lt_of_heap h, (cell_of h 7).trans rfl, (cell_of h 8).trans rfl, (cell_of h 9).trans rfl, (cell_of h 10).trans rfl, (cell_of h 11).trans rfl, (cell_of h 12).trans rfl, (cell_of h 13).trans rfl⟩
    | succ i => simp at hx
theorem own_row1 {w : World} {b : Nat} {ty : TypeId} {r : Rw.RwM} (h : w.heap[b]? = some (rwO r ty)) : w.ownsRow b ty 7 (.slice (some ⟨b, 0, none⟩) 1 1) [r].length (Rw.rwc [r]) :=
  ⟨rfl, .inr ⟨b, 1, _, rfl, Nat.le_refl _, h, Nat.le_refl _, by unfold maxLen; omega, rfl, rfl⟩⟩

theorem ses17 (i : Int) (t : TxM) (a : Option Addr) (n c : Nat) (w : World) : Calls Try.prog 34 #[.int .i64 i, txV t (.slice a n c)] w fun e w' => e = .returned (Rw.rowV (sesR i t)) ∧ Kept w w' := by
  have HB : Hid _ := heap_new (w.alloc (txO t a n c)) (rwO (sesR i t) 43)
  unfold txV
  go_enter Try.func34, Try.ntmps34
  go_wp2_with fail
  refine bodyPost_ret (Rw.results_c (a := 4) (t := 43) rfl rfl (Rw.loadVar_row (r := sesR i t) (.inr rfl) ?_)) rfl ⟨rfl, ((Same.refl _ w).alloc _).alloc _⟩
  have := HB.out
  rw [World.size_alloc] at this
  exact this
theorem rsound17 (t : TxM) (a : Option Addr) (n c : Nat) (w : World) : Calls Try.prog 27 #[txV t (.slice a n c)] w fun e w' => e = .returned (.bool (decide (t.f2 < t.f3))) ∧ Kept w w' := by
  unfold txV
  go_enter Try.func27, Try.ntmps27
  go_wp2_with fail
  go_ret
  exact ⟨rfl, (Same.refl _ w).alloc _⟩
set_option maxRecDepth 100000 in
set_option maxHeartbeats 3200000 in
theorem rows17 (i : Int) (t : TxM) (a : Option Addr) (c : Nat) (w : World) (ht : ∀ W, Kept w W → TxA W t (txV t (.slice a t.ops.length c))) :
    Calls Try.prog 14 #[.int .i64 i, txV t (.slice a t.ops.length c)] w fun e w' => ∃ v, e = .returned (.tuple #[v, .int .i64 (codR i t)]) ∧ Rw.OwnR w.heap.size w' v (lisR i t) ∧ Kept w w' := by
  have HP : Hid (∀ W, _) := fun W => isPlace17 i W
  have HN : Hid (∀ W, Kept w W → valid t ≠ 0 → _) := fun W k h => encode_no W t _ (ht W k) h
  have HY : Hid (∀ W, Kept w W → Right t → _) := fun W k h => encode_ok W t _ (ht W k) h
  have HSD : Hid (∀ W, _) := fun W => sound17 t a t.ops.length c W
  have EZ : Hid (∀ z : Int, z ≠ 0 → codR i t = z → lisR i t = []) := fun z hz h => by unfold lisR; rw [if_neg (by omega)]
  have EO : Hid (codR i t = 0 → lisR i t = rwsR i t) := fun h => by unfold lisR; rw [if_pos h]
  generalize hn : t.ops.length = n at *
  by_cases hi : 0 ≤ i ∧ i < 4096
  case neg =>
    have di : decide (0 ≤ i ∧ i < 4096) = false := decide_eq_false hi
    rw [di] at HP
    have ec : codR i t = 170 := by unfold codR; rw [if_pos hi]
    rw [EZ.out 170 (by decide) ec, ec]
    clear HN HY HSD EZ EO hi ec hn di
    unfold txV
    go_enter Try.func14, Try.ntmps14
    go_wp2_with fail
    refine Calls.mono (HP.out _) ?_
    rintro e W1 ⟨rfl, ew⟩
    subst W1
    go_wp2_with fail
    go_ret2
    exact ⟨_, rfl, Rw.OwnR.nil _ _, (Same.refl _ w).alloc _⟩
  have di : decide (0 ≤ i ∧ i < 4096) = true := decide_eq_true hi
  rw [di] at HP
  have ec : codR i t = valid t := by unfold codR; rw [if_neg (by omega)]
  by_cases hv : valid t = 0
  case neg =>
    have dv : (valid t != 0) = true := by simpa using hv
    rw [EZ.out _ hv ec, ec]
    have HN' : Hid (∀ W, Kept w W → _) := fun W k => HN.out W k hv
    clear HN HY HSD EZ EO hi ec hn di
    generalize valid t = cv at *
    unfold txV at HN' ⊢
    go_enter Try.func14, Try.ntmps14
    go_wp2_with fail
    refine Calls.mono (HP.out _) ?_
    rintro e W1 ⟨rfl, ew⟩
    subst W1
    go_wp2_with fail
    refine Calls.mono (HN'.out _ ((Same.refl _ w).alloc _)) ?_
    rintro e W1 ⟨rfl, k1⟩
    have K1 : Hid (Kept w W1) := ((Same.refl _ w).alloc _).trans' k1
    clear k1
    go_wp2_with fail
    go_ret2
    exact ⟨_, rfl, Rw.OwnR.nil _ _, K1.out⟩
  rw [EO.out (ec.trans hv), ec, hv]
  have HR : Hid (Right t) := valid_zero.1 hv
  have HY' : Hid (∀ W, Kept w W → _) := fun W k => HY.out W k HR.out
  clear HN HY EZ EO hi ec hn di hv
  unfold txV at HY' HSD ⊢
  go_enter Try.func14, Try.ntmps14
  go_wp2_with fail
  refine Calls.mono (HP.out _) ?_
  rintro e W1 ⟨rfl, ew⟩
  subst W1
  go_wp2_with fail
  refine Calls.mono (HY'.out _ ((Same.refl _ w).alloc _)) ?_
  rintro e W1 ⟨u1, rfl, o1, k1⟩
  have hb : W1.heap[w.heap.size]? = some (txO t a n c) := (k1.block _ (by simp [World.size_alloc]) (fun e => e)).trans (heap_new _ _)
  have K1 : Hid (Kept w W1) := ((Same.refl _ w).alloc _).trans' k1
  obtain ⟨au, cu, eu, bu⟩ := BytesAt.of_row o1
  subst eu
  have BU : Hid (BytesAt W1 au (body t)) := bu.1
  have HBT : Hid (W1.heap[w.heap.size]? = some (txO t a n c)) := hb
  obtain ⟨⟨p0, p1, p2, p3, p4, p5, p6, p7⟩, -⟩ := tx_obj hb
  have hl := lt_of_heap hb
  clear hb k1 o1 bu
  go_upto_region 7 with fail
  have KS : Hid (Kept W1 (W1.alloc (rwO (sesR i t) 42))) := (Same.refl _ _).alloc _
  have GS : Hid _ := heap_new W1 (rwO (sesR i t) 42)
  change Code.wp _ _ _ _ (W1.alloc (rwO (sesR i t) 42))
  generalize W1.alloc (rwO (sesR i t) 42) = W2 at *
  have HG : Hid (w.heap.size ≤ W1.heap.size) := K1.out.size
  generalize W1.heap.size = g2 at GS HG ⊢
  have HB2 : Hid (W2.heap[w.heap.size]? = some (txO t a n c)) := (KS.out.block _ (lt_of_heap HBT.out) (fun e => e)).trans HBT.out
  clear p0 p1 p2 p3 p4 p5 p6 p7 hl
  obtain ⟨⟨p0, p1, p2, p3, p4, p5, p6, p7⟩, -⟩ := tx_obj HB2.out
  have hl := lt_of_heap HB2.out
  go_wp2_with fail
  refine Calls.mono (HSD.out _) ?_
  rintro e W3 ⟨rfl, k3⟩
  have K3 : Hid (Kept w W3) := (K1.out.trans' KS.out).trans' k3
  have GS3 : Hid (W3.heap[g2]? = some (rwO (sesR i t) 42)) := (k3.block _ (lt_of_heap GS.out) (fun e => e)).trans GS.out
  have HB3 : Hid (W3.heap[w.heap.size]? = some (txO t a n c)) := (k3.block _ (lt_of_heap HB2.out) (fun e => e)).trans HB2.out
  have BU3 : Hid (BytesAt W3 au (body t)) := BytesAt.kept BU.out (KS.out.trans' k3) (fun _ _ h => h)
  clear p0 p1 p2 p3 p4 p5 p6 p7 hl k3
  obtain ⟨⟨p0, p1, p2, p3, p4, p5, p6, p7⟩, -⟩ := tx_obj HB3.out
  have hl := lt_of_heap HB3.out
  have OS : Hid (Rw.OwnR w.heap.size W3 (.slice (some ⟨g2, 0, none⟩) 1 1) [sesR i t]) := row_base (own_row1 GS3.out) HG.out
  by_cases hs : t.f2 < t.f3
  · have ds : decide (t.f2 < t.f3) = true := decide_eq_true hs
    have er : rwsR i t = [sesR i t] ++ [staR i t, endR i t] := by unfold rwsR; rw [if_pos hs]; rfl
    have ER : Hid _ := er
    clear er
    obtain ⟨bb, bo, ea⟩ : ∃ b o, au = some ⟨b, o, none⟩ := by
      have h8 := (body_len HR.out).2
      obtain ⟨b, o, e, -⟩ := BU3.out 0 _ (List.getElem?_eq_getElem (by omega))
      exact ⟨b, o, e⟩
    subst ea
    have HCV : Hid (∀ W, Kept W3 W → (convert 71 9 (.slice (some ⟨bb, bo, none⟩) (body t).length cu)).run Try.prog W = .ok (.string (strOfNums (body t))) W) := fun W k => convert_bytes (BytesAt.kept BU3.out k (fun _ _ h => h))
    have hcv := HCV.out W3 (Same.refl _ _)
    have HAP : Hid (∀ ty, ∃ v' w', (Builtin.append_ #[35, 35] ty #[.slice (some ⟨g2, 0, none⟩) 1 1, .slice (some ⟨W3.heap.size, 0, none⟩) 2 2]).run Try.prog (W3.alloc (.cells #[.int .i64 2, .int .i64 t.f2, .int .i64 0, .int .i64 i, .int .i64 0, .int .i64 0, .string ⟨#[]⟩, .int .i64 1, .int .i64 t.f3, .int .i64 0, .int .i64 i, .int .i64 0, .int .i64 0, .string (strOfNums (body t))] 42)) = .ok v' w' ∧ Rw.OwnR w.heap.size w' v' ([sesR i t] ++ [staR i t, endR i t]) ∧ Kept w w') := fun ty => by
      have hk : Kept W3 (W3.alloc (.cells #[.int .i64 2, .int .i64 t.f2, .int .i64 0, .int .i64 i, .int .i64 0, .int .i64 0, .string ⟨#[]⟩, .int .i64 1, .int .i64 t.f3, .int .i64 0, .int .i64 i, .int .i64 0, .int .i64 0, .string (strOfNums (body t))] 42 (0, 0))) := (Same.refl _ _).alloc _
      obtain ⟨v', w', r1, r2, r3, -⟩ := Rw.app_rows (cap := 2) (l := [staR i t, endR i t]) Try.underlying35 Rw.Try.infoRow (row_kept OS.out hk (fun _ _ h => h)) (two_rows (heap_new _ _)) (fun e => by cases e) (by simp) (by rw [World.size_alloc]; have := K3.out.size; omega) ty
      refine ⟨v', w', r1, r2, (K3.out.trans' hk).trans r3 (fun k hk e => ?_)⟩
      simp only [Value.ownBlock, Option.some.injEq] at e
      have := HG.out
      omega
    generalize body t = bt at *
    generalize hbl : bt.length = bl at *
    clear hbl
    generalize strOfNums bt = sb at *
    clear HCV
    go_wp2_with (at_builtin; apply Hid.out)
    refine Ch.wpList_app rfl (.tmp 33) (.tmp 44) 35 rfl (.slice (some ⟨g2, 0, none⟩) 1 1) (.slice (some ⟨W3.heap.size, 0, none⟩) 2 2) rfl rfl _ HAP.out ?_
    rintro v4 W4 ⟨o4, k4⟩
    obtain ⟨a4, m4, c4, ev⟩ : ∃ a m c, v4 = .slice a m c := by
      obtain ⟨a, c, ev, -⟩ := row_shape o4
      exact ⟨_, _, _, ev⟩
    subst ev
    have O4 : Hid _ := And.intro o4 k4
    clear o4 k4 HAP
    go_wp2_with fail
    go_ret2
    rw [ER.out]
    exact ⟨_, rfl, O4.out⟩
  · have ds : decide (t.f2 < t.f3) = false := decide_eq_false hs
    have er : rwsR i t = [sesR i t] := by unfold rwsR; rw [if_neg hs]
    have ER : Hid _ := er
    clear er
    go_wp2_with fail
    go_ret2
    rw [ER.out]
    exact ⟨_, rfl, OS.out, K3.out⟩
end Go.Proofs.Ytbjmdpfoeeadeaa.Sw
