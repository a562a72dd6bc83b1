/- What is proved: LogfileMany answers true for every transaction. -/
import Derived.Test.YthnhfahkanpjjabLBackD
import Derived.Test.YthnhfahkanpjjabLChk
import Derived.Deep.RegionWith
import Derived.Deep.RegionHeld3
import Derived.Deep.DeepCutAuto
namespace Go.Proofs.Ythnhfahkanpjjab
open Go.RowKit

/-- append as one step of a region that draws its order. -/
theorem step_app {P : Program} {ops : Array Oper} {o : Oper} {a : Act} {w : World} {K : Act → World → Prop} {Q : Exit → Act → World → Prop} {E : Prop} (hg : o.guard = none) (s x : Operand) (t : TypeId)
    (ho : o.op = .call { callee := .builtin .append, args := #[s, x], argTypes := #[t, t] }) (vs vx : Value) (hs : a.eval s = vs) (hx : a.eval x = vx) (R : Value → World → Prop)
    (hrun : ∀ ty, ∃ v' w', (Builtin.append_ #[t, t] ty #[vs, vx]).run P w = .ok v' w' ∧ R v' w') (h : ∀ v' w', R v' w' → K (a.put o.dst v') w') : if Region.wanted o (yielded ops a.tmps) = true then Oper.wp P o a w K Q else E := by
  have hw : Region.wanted o (yielded ops a.tmps) = true := by simp [Region.wanted, hg]
  rw [if_pos hw]
  obtain ⟨v', w', hr, hR⟩ := hrun o.type
  unfold Oper.wp
  simp only [execOp, ho, resolve, invoke, builtin, Sem.run_bind, Sem.run_pure, Result.andThen_ok, List.map_toArray, List.map_cons, List.map_nil, hs, hx, hr]
  exact h v' w' hR
/-- The same transaction k times. -/
structure Rep (W0 W : World) (v : Value) (r : TxR) (k : Nat) : Prop where
  row : OwnT W0.heap.size W v (List.replicate k r)
  kept : Kept W0 W
theorem Rep.next {W0 W : World} {v : Value} {r : TxR} {k : Nat} (h : Rep W0 W v r k) (hk : k ≤ 5000) (ty : TypeId) :
    ∃ v' w', (Builtin.append_ #[22, 22] ty #[v, .slice (some ⟨W.heap.size, 0, none⟩) 1 1]).run Try.prog (W.alloc r.obj) = .ok v' w' ∧ (∃ a c, Rep W0 w' v' r (k + 1) ∧ v' = .slice a (k + 1) c ∧ Same (fun i => v.ownBlock = some i) W w') := by
  obtain ⟨v', w', hr, r1, r2, -⟩ := app_tx_one r h.row (by simpa using hk) h.kept.size ty
  have e : List.replicate k r ++ [r] = List.replicate (k + 1) r := by rw [List.replicate_succ']
  rw [e] at r1
  obtain ⟨a, c, e', -⟩ := OwnT.txs r1
  rw [List.length_replicate] at e'
  exact ⟨v', w', hr, a, c, ⟨r1, h.kept.trans r2 (fun i hi e => absurd (h.row.block e).1 (Nat.not_le.2 hi))⟩, e', r2⟩
theorem Rep.val {W0 W : World} {v : Value} {r : TxR} {k : Nat} (h : Rep W0 W v r k) : ∃ a c, v = .slice a k c ∧ TxsAt W a (List.replicate k r) := by
  obtain ⟨a, c, e, t, -⟩ := OwnT.txs h.row
  rw [List.length_replicate] at e
  exact ⟨a, c, e, t⟩
theorem Rep.on {W0 W W' : World} {v : Value} {r : TxR} {k : Nat} (h : Rep W0 W v r k) (hk : Kept W W') : Rep W0 W' v r k := ⟨h.row.on hk, h.kept.trans' hk⟩
theorem txs_one (w : World) (r : TxR) : TxsAt (w.alloc r.obj) (some ⟨w.heap.size, 0, none⟩) [r] := fun i x hx => by
  cases i with
  | zero =>
    simp only [List.getElem?_cons_zero, Option.some.injEq] at hx
    subst hx
    refine ⟨w.heap.size, 0, rfl, by simp [World.size_alloc], fun j hj => ?_⟩
    have hh : (w.alloc r.obj).heap[w.heap.size]? = some (.cells #[.int .i64 r.t.f0, .int .i64 r.t.f1, .int .i64 r.t.f2, .int .i64 r.t.f3, .int .i64 r.t.f4, .int .i64 r.t.f5, .int .i64 r.t.f6, .slice r.a r.t.ops.length r.c] 39 (0, 0)) := heap_new w _
    rw [cell_of hh]
    simp [TxR.cells]
  | succ i => simp at hx
/-- Encode of a list that is too long. -/
theorem enc_long {W : World} {oa : Option Addr} {c : Nat} {l : List TxR} (hd : TxsAt W oa l) (hdp : Deep W l) (hl : 4096 < l.length) (hl2 : l.length ≤ 5000) : Calls Try.prog 9 #[.slice oa l.length c] W fun x w' => x = .returned (.tuple #[.slice none 0 0, .int .i64 0, .int .i64 71]) ∧ Kept W w' := by
  refine Calls.mono (encode7_any (c := c) hd hdp (by omega)) ?_
  rintro x w' ⟨k, m⟩
  have hc : check7 (l.map TxR.t) = (0, 71) := by unfold check7; rw [if_pos (by rw [List.length_map]; exact hl)]
  rw [hc] at m
  exact ⟨m, k⟩
theorem enc_right {W : World} {oa : Option Addr} {c : Nat} {l : List TxR} {ts : List TxM} (hd : TxsAt W oa l) (hdp : Deep W l) (he : l.map TxR.t = ts) (hr : ∀ t ∈ ts, Right t) (hl2 : ts.length ≤ 4096) : Calls Try.prog 9 #[.slice oa l.length c] W fun x w' => ∃ u, x = .returned (.tuple #[u, .int .i64 0, .int .i64 0]) ∧ OwnB W.heap.size w' u (log7 ts) ∧ Kept W w' := by
  subst he
  refine Calls.mono (encode7_any (c := c) hd hdp (by rw [List.length_map] at hl2; omega)) ?_
  rintro x w' ⟨k, m⟩
  rw [if_pos (check7_ok.2 ⟨hr, hl2⟩)] at m
  obtain ⟨u, e, o⟩ := m
  exact ⟨u, e, o, k⟩
theorem form_4096 : (form 4096).length = 2 := by
  rw [form_big (by decide), form_small (by decide)]
  rfl
theorem cut_many (T : List TxM) (h : T.length = 4096) : (log7 T).take ((log7 T).length - 3) = head4 ++ ents T ∧ (log7 T).length - 3 = 4 + (ents T).length := by
  have e : log7 T = (head4 ++ ents T) ++ (0 :: form 4096) := by rw [log7, h]; simp
  have hl : (0 :: form 4096).length = 3 := by rw [List.length_cons, form_4096]
  have h4 : head4.length = 4 := rfl
  have hn : (log7 T).length - 3 = (head4 ++ ents T).length := by rw [e, List.length_append, hl]; omega
  rw [hn]
  refine ⟨by rw [e]; exact List.take_left, by rw [List.length_append, h4]⟩
theorem drop_one (t : TxM) : (log7 [t]).drop 4 = form (body t).length ++ (body t ++ (0 :: form 1)) := by
  have e : log7 [t] = head4 ++ (form (body t).length ++ (body t ++ (0 :: form 1))) := by simp [log7, ents]
  rw [e]
  exact List.drop_left' rfl
set_option maxRecDepth 100000 in
set_option maxHeartbeats 1600000 in
theorem lmany_no (t : TxM) (a : Option Addr) (c : Nat) (w : World) (h : ArgT w t a c) (hv : valid t ≠ 0) :
    Calls Try.prog 5 #[txV t (.slice a t.ops.length c)] w fun e w' => e = .returned (.bool true) ∧ Kept w w' := by
  have HV : Hid (∀ W, Kept w W → _) := fun W (k : Kept w W) => validR_any W t (txV t (.slice a t.ops.length c)) ((h.on k).txa)
  have hv' : (valid t != 0) = true := by simpa using hv
  unfold txV at HV ⊢
  clear h hv
  go_enter Try.func5, Try.ntmps5
  go_wp2_with fail
  refine Calls.mono (anchor_any _) ?_
  rintro e w1 ⟨rfl, k1⟩
  have x1 := (k1.block _ (by rw [World.size_alloc]; exact Nat.lt_succ_self _) (fun h => h)).trans (heap_new w _)
  obtain ⟨⟨m0, m1, m2, m3, m4, m5, m6, m7⟩, -⟩ := tx_obj x1
  have hb := lt_of_heap x1
  have K1 : Hid (Kept w w1) := ((Same.refl _ w).alloc _).trans' k1
  clear k1 x1
  go_wp2_with fail
  refine Calls.mono (HV.out _ K1.out) ?_
  rintro e w2 ⟨rfl, k2⟩
  have K2 : Hid _ := K1.out.trans' k2
  clear k2
  go_wp2_with fail
  go_ret
  exact ⟨rfl, K2.out⟩
set_option maxRecDepth 100000 in
set_option maxHeartbeats 6400000 in
theorem lmany_ok (t : TxM) (a : Option Addr) (c : Nat) (w : World) (h : ArgT w t a c) (hrt : Right t) :
    Calls Try.prog 5 #[txV t (.slice a t.ops.length c)] w fun e w' => e = .returned (.bool true) ∧ Kept w w' := by
  have HV : Hid (∀ W, Kept w W → _) := fun W (k : Kept w W) => validR_any W t (txV t (.slice a t.ops.length c)) ((h.on k).txa)
  rw [valid_zero.2 hrt] at HV
  have HCP : Hid (∀ W, Kept w W → _) := fun W (k : Kept w W) => copy_any W t a c (h.on k)
  have HRT : Hid _ := hrt
  unfold txV at HV HCP ⊢
  clear h hrt
  go_enter Try.func5, Try.ntmps5
  go_wp2_with fail
  refine Calls.mono (anchor_any _) ?_
  rintro e w1 ⟨rfl, k1⟩
  have x1 := (k1.block _ (by rw [World.size_alloc]; exact Nat.lt_succ_self _) (fun h => h)).trans (heap_new w _)
  obtain ⟨⟨m0, m1, m2, m3, m4, m5, m6, m7⟩, -⟩ := tx_obj x1
  have hb := lt_of_heap x1
  have X1 : Hid _ := x1
  have K1 : Hid (Kept w w1) := ((Same.refl _ w).alloc _).trans' k1
  clear k1 x1
  go_wp2_with fail
  refine Calls.mono (HV.out _ K1.out) ?_
  rintro e w2 ⟨rfl, k2⟩
  have x2 := (k2.block _ (lt_of_heap X1.out) (fun h => h)).trans X1.out
  clear m0 m1 m2 m3 m4 m5 m6 m7 hb
  obtain ⟨⟨m0, m1, m2, m3, m4, m5, m6, m7⟩, -⟩ := tx_obj x2
  have hb := lt_of_heap x2
  have X2 : Hid _ := x2
  have K2 : Hid _ := K1.out.trans' k2
  clear k2 x2
  go_wp2_with fail
  refine Calls.mono (HCP.out _ K2.out) ?_
  rintro e w3 ⟨a3, c3, rfl, o3, k3⟩
  have x3 := (k3.block _ (lt_of_heap X2.out) (fun h => h)).trans X2.out
  clear m0 m1 m2 m3 m4 m5 m6 m7 hb
  obtain ⟨⟨m0, m1, m2, m3, m4, m5, m6, m7⟩, f0, f1, f2, f3, f4, f5, f6, f7⟩ := tx_obj x3
  have hb3 := lt_of_heap x3
  have hbx2 := lt_of_heap X2.out
  have hs3 := put8_same w3 w.heap.size (.int .i64 t.f0) (.int .i64 t.f1) (.int .i64 t.f2) (.int .i64 t.f3) (.int .i64 t.f4) (.int .i64 t.f5) (.int .i64 t.f6) (.slice a3 t.ops.length c3)
  have X4 : Hid _ := put8_at x3 (.int .i64 t.f0) (.int .i64 t.f1) (.int .i64 t.f2) (.int .i64 t.f3) (.int .i64 t.f4) (.int .i64 t.f5) (.int .i64 t.f6) (.slice a3 t.ops.length c3)
  have K4 : Hid (Kept w (put8 w3 w.heap.size (.int .i64 t.f0) (.int .i64 t.f1) (.int .i64 t.f2) (.int .i64 t.f3) (.int .i64 t.f4) (.int .i64 t.f5) (.int .i64 t.f6) (.slice a3 t.ops.length c3))) := (K2.out.trans' k3).trans hs3 (fun i hi (e : i = w.heap.size) => by omega)
  have O4 : Hid (OwnO w2.heap.size (put8 w3 w.heap.size (.int .i64 t.f0) (.int .i64 t.f1) (.int .i64 t.f2) (.int .i64 t.f3) (.int .i64 t.f4) (.int .i64 t.f5) (.int .i64 t.f6) (.slice a3 t.ops.length c3)) (.slice a3 t.ops.length c3) t.ops) := OwnO.kept o3 hs3 (fun k e (e2 : k = w.heap.size) => by have := (o3.block e).1; omega)
  obtain ⟨W0, eW0⟩ : ∃ W0, W0 = put8 w3 w.heap.size (.int .i64 t.f0) (.int .i64 t.f1) (.int .i64 t.f2) (.int .i64 t.f3) (.int .i64 t.f4) (.int .i64 t.f5) (.int .i64 t.f6) (.slice a3 t.ops.length c3) := ⟨_, rfl⟩
  rw [← eW0] at X4 K4 O4
  have R0 : Hid (Rep W0 (put8 w3 w.heap.size (.int .i64 t.f0) (.int .i64 t.f1) (.int .i64 t.f2) (.int .i64 t.f3) (.int .i64 t.f4) (.int .i64 t.f5) (.int .i64 t.f6) (.slice a3 t.ops.length c3)) (.slice none 0 0) ⟨t, a3, c3⟩ 0) := ⟨OwnT.nil _ _, by rw [← eW0]; exact Same.refl _ _⟩
  have DP : Hid (∀ W, Kept W0 W → ∀ k, Deep W (List.replicate k (⟨t, a3, c3⟩ : TxR))) := fun W k n r hr => by
    obtain rfl := (List.mem_replicate.1 hr).2
    obtain ⟨a', c', e', o', -⟩ := OwnO.ops (OwnO.on O4.out k)
    simp only [Value.slice.injEq, true_and] at e'
    rw [e'.1]
    exact o'
  clear o3 k3 x3 hs3 X1 X2 HV HCP eW0
  go_wp2_with fail
  go_loopw [3, 4] (fun vl vi W => ∃ k : Nat, vi = .int .i64 k ∧ k ≤ 4096 ∧ Rep W0 W vl ⟨t, a3, c3⟩ k) (fun _ vi _ => 4096 - (intOf vi).toNat)
  case atStart => exact ⟨0, rfl, by decide, R0.out⟩
  case round =>
    obtain ⟨k, rfl, hk, hrep⟩ := hrel
    have HREP : Hid _ := hrep
    have xr := (hrep.kept.block _ (lt_of_heap X4.out) (fun h => h)).trans X4.out
    clear m0 m1 m2 m3 m4 m5 m6 m7 f0 f1 f2 f3 f4 f5 f6 f7 hb3
    obtain ⟨⟨m0, m1, m2, m3, m4, m5, m6, m7⟩, -⟩ := tx_obj xr
    have hbr := lt_of_heap xr
    have XR : Hid _ := xr
    obtain ⟨va, vc, rfl, tat⟩ := hrep.val
    have TAT : Hid _ := tat
    clear hrep R0 xr tat
    by_cases hk4 : k < 4096
    · have d1 : decide ((k : Int) < 4096) = true := decide_eq_true (by omega)
      have hk4' : (k : Int) < 4096 := by omega
      have HN : Hid (∀ ty, _) := fun ty => HREP.out.next (by omega) ty
      go_wp2_with (at_builtin; refine wpList_app rfl (.tmp 33) (.tmp 35) 22 22 rfl _ _ rfl rfl _ HN.out ?_; intro v5 w5 hR; obtain ⟨a5, c5, r5, rfl, -⟩ := hR; have R5 : Hid _ := r5; clear r5)
      go_roundw
      case rel => exact ⟨k + 1, by congr 1, by omega, R5.out⟩
      case measure => simp only [intOf]; omega
    · obtain rfl : k = 4096 := by omega
      obtain ⟨T, eT⟩ : ∃ T, T = List.replicate 4096 t := ⟨_, rfl⟩
      have hTl : T.length = 4096 := by rw [eT, List.length_replicate]
      have hTr : ∀ x ∈ T, Right x := fun x hx => by
        rw [eT] at hx
        rw [(List.mem_replicate.1 hx).2]
        exact HRT.out
      have hTm : (List.replicate 4096 (⟨t, a3, c3⟩ : TxR)).map TxR.t = T := by rw [List.map_replicate, eT]
      have hE := enc_right (c := vc) TAT.out (DP.out _ HREP.out.kept 4096) hTm hTr (by rw [hTl]; exact Nat.le_refl _)
      rw [List.length_replicate] at hE
      have HE : Hid _ := hE
      clear hE
      obtain ⟨ll1, ll2⟩ := log_len hTr (by rw [hTl]; exact Nat.le_refl _)
      obtain ⟨el1, el2⟩ := ents_len hTr
      have hcm := cut_many T hTl
      have HTT : Hid (T.length = 4096 ∧ (∀ x ∈ T, Right x)) := ⟨hTl, hTr⟩
      have HT2 : Hid (T[4095]? = some t) := by show T[4095]? = some t; rw [eT, List.getElem?_replicate, if_pos (by decide)]
      obtain ⟨lg, elg⟩ : ∃ lg, lg = log7 T := ⟨_, rfl⟩
      have ELG : Hid _ := elg
      rw [← elg] at ll1 hcm HE
      obtain ⟨N, eN⟩ : ∃ N, N = lg.length := ⟨_, rfl⟩
      have EN : Hid _ := eN
      rw [← eN] at ll1 hcm
      have hN9 : 9 ≤ N := by have := hcm.2; omega
      have hNi : (N : Int) ≤ 1908743 := by omega
      have hN9i : 9 ≤ (N : Int) := by omega
      have HCM : Hid _ := hcm
      have d1 : decide (((4096 : Nat) : Int) < 4096) = false := decide_eq_false (by omega)
      clear hk hk4 hTl hTr hTm eT elg eN ll2 el1 el2 hcm
      go_wp2_with fail
      refine Calls.mono HE.out ?_
      rintro e w5 ⟨p5, rfl, o5, k5⟩
      obtain ⟨pa, pc, rfl, pd5, pcap5, pn5, -, -⟩ := OwnB.bytes o5
      have O5 : Hid _ := o5
      have K5 : Hid _ := k5
      have HDC : Hid _ := back_dec (ts := T) (by rw [← ELG.out]; exact o5) HTT.out.2 (by rw [HTT.out.1]; exact Nat.le_refl _)
      rw [← EN.out] at HDC pcap5
      rw [← EN.out]
      have d9 : decide ((N : Int) < 9) = false := decide_eq_false (by omega)
      clear o5 k5 pd5 pn5 HE
      go_wp2_with fail
      refine Calls.mono HDC.out ?_
      rintro e w6 ⟨v6, l6, e6, rfl, s6, k6⟩
      have hl6 : l6.length = 4096 := by have := congrArg List.length e6; rw [List.length_map, HTT.out.1] at this; exact this
      obtain ⟨la, lc, rfl, t6, -, -, hoff6, -⟩ := OwnT.txs s6.row
      obtain ⟨r6, hr6⟩ : ∃ r6, l6[4095]? = some r6 := ⟨_, List.getElem?_eq_getElem (by rw [hl6]; decide)⟩
      have hr6t : r6.t = t := by
        have h1 := congrArg (fun x => x[4095]?) e6
        simp only [List.getElem?_map, hr6, Option.map_some] at h1
        have h2 : T[4095]? = some t := HT2.out
        rw [h2] at h1
        exact Option.some.inj h1
      obtain ⟨b6, off6, rfl, hb6, -⟩ := t6 _ _ hr6
      obtain rfl : off6 = 0 := (hoff6 b6 off6 rfl).2
      obtain ⟨y0, y1, y2, y3, y4, y5, y6, y7⟩ := TxsAt.get t6 hr6
      simp only [Nat.zero_add, Nat.reduceMul, Nat.reduceAdd] at y0 y1 y2 y3 y4 y5 y6 y7
      have TA6 : Hid _ := Deep.get s6.deep hr6
      have kr6 : Kept wr w6 := K5.out.trans' k6
      have x6 := (kr6.block _ (lt_of_heap XR.out) (fun h => h)).trans XR.out
      clear m0 m1 m2 m3 m4 m5 m6 m7 hbr
      obtain ⟨⟨m0, m1, m2, m3, m4, m5, m6, m7⟩, -⟩ := tx_obj x6
      have hbx6 := lt_of_heap x6
      have KR6 : Hid _ := kr6
      have K56 : Hid _ := k6
      have HS6 : Hid (∀ W, Kept w6 W → _) := fun W (kk : Kept w6 W) => sameT W t r6.v (TxR.v ⟨t, a3, c3⟩) (by have := TxA.on TA6.out kk; rw [hr6t] at this; exact this) (by
        obtain ⟨a', c', e', o', -⟩ := OwnO.ops (OwnO.on O4.out (HREP.out.kept.trans' (kr6.trans' kk)))
        simp only [Value.slice.injEq, true_and] at e'
        obtain ⟨rfl, rfl⟩ := e'
        exact ⟨a3, c3, rfl, o'⟩) (by have := HRT.out.2.1; omega)
      obtain ⟨L6, eL6⟩ : ∃ L6, L6 = l6.length := ⟨_, rfl⟩
      rw [← eL6]
      have g1 : ((L6 : Int) != 4096) = false := by rw [eL6, hl6]; rfl
      have g2 : (4095 : Int) < (L6 : Int) := by omega
      have g3 : 4095 < L6 := by omega
      clear e6 s6 k6 t6 hr6 hr6t kr6 x6 hoff6 hl6 eL6
      have HX6 : Hid (∀ W, Kept w6 W → Kept w6 W ∧ (W.cell? ⟨b6, 32760, none⟩ = some (.int .i64 r6.t.f0) ∧ W.cell? ⟨b6, 32761, none⟩ = some (.int .i64 r6.t.f1) ∧ W.cell? ⟨b6, 32762, none⟩ = some (.int .i64 r6.t.f2) ∧ W.cell? ⟨b6, 32763, none⟩ = some (.int .i64 r6.t.f3) ∧ W.cell? ⟨b6, 32764, none⟩ = some (.int .i64 r6.t.f4) ∧ W.cell? ⟨b6, 32765, none⟩ = some (.int .i64 r6.t.f5) ∧ W.cell? ⟨b6, 32766, none⟩ = some (.int .i64 r6.t.f6) ∧ W.cell? ⟨b6, 32767, none⟩ = some (.slice r6.a r6.t.ops.length r6.c)) ∧ (W.cell? ⟨w.heap.size, 0, none⟩ = some (.int .i64 t.f0) ∧ W.cell? ⟨w.heap.size, 1, none⟩ = some (.int .i64 t.f1) ∧ W.cell? ⟨w.heap.size, 2, none⟩ = some (.int .i64 t.f2) ∧ W.cell? ⟨w.heap.size, 3, none⟩ = some (.int .i64 t.f3) ∧ W.cell? ⟨w.heap.size, 4, none⟩ = some (.int .i64 t.f4) ∧ W.cell? ⟨w.heap.size, 5, none⟩ = some (.int .i64 t.f5) ∧ W.cell? ⟨w.heap.size, 6, none⟩ = some (.int .i64 t.f6) ∧ W.cell? ⟨w.heap.size, 7, none⟩ = some (.slice a3 t.ops.length c3))) := fun W kk =>
        ⟨kk, ⟨(kk.cell (p := ⟨b6, 32760, none⟩) hb6 (fun h => h)).trans y0, (kk.cell (p := ⟨b6, 32761, none⟩) hb6 (fun h => h)).trans y1, (kk.cell (p := ⟨b6, 32762, none⟩) hb6 (fun h => h)).trans y2, (kk.cell (p := ⟨b6, 32763, none⟩) hb6 (fun h => h)).trans y3, (kk.cell (p := ⟨b6, 32764, none⟩) hb6 (fun h => h)).trans y4, (kk.cell (p := ⟨b6, 32765, none⟩) hb6 (fun h => h)).trans y5, (kk.cell (p := ⟨b6, 32766, none⟩) hb6 (fun h => h)).trans y6, (kk.cell (p := ⟨b6, 32767, none⟩) hb6 (fun h => h)).trans y7⟩, ⟨(kk.cell (p := ⟨w.heap.size, 0, none⟩) hbx6 (fun h => h)).trans m0, (kk.cell (p := ⟨w.heap.size, 1, none⟩) hbx6 (fun h => h)).trans m1, (kk.cell (p := ⟨w.heap.size, 2, none⟩) hbx6 (fun h => h)).trans m2, (kk.cell (p := ⟨w.heap.size, 3, none⟩) hbx6 (fun h => h)).trans m3, (kk.cell (p := ⟨w.heap.size, 4, none⟩) hbx6 (fun h => h)).trans m4, (kk.cell (p := ⟨w.heap.size, 5, none⟩) hbx6 (fun h => h)).trans m5, (kk.cell (p := ⟨w.heap.size, 6, none⟩) hbx6 (fun h => h)).trans m6, (kk.cell (p := ⟨w.heap.size, 7, none⟩) hbx6 (fun h => h)).trans m7⟩⟩
      go_upto_region 15 with fail
      go_cut [70] (fun s70 wx => s70 = .bool false ∧ Kept w6 wx)
      case first =>
        clear HREP TAT DP ELG EN HCM HTT O5 K5 O4 X4 XR
        go_region_held3 (fun W => Kept w6 W ∧ (W.cell? ⟨b6, 32760, none⟩ = some (.int .i64 r6.t.f0) ∧ W.cell? ⟨b6, 32761, none⟩ = some (.int .i64 r6.t.f1) ∧ W.cell? ⟨b6, 32762, none⟩ = some (.int .i64 r6.t.f2) ∧ W.cell? ⟨b6, 32763, none⟩ = some (.int .i64 r6.t.f3) ∧ W.cell? ⟨b6, 32764, none⟩ = some (.int .i64 r6.t.f4) ∧ W.cell? ⟨b6, 32765, none⟩ = some (.int .i64 r6.t.f5) ∧ W.cell? ⟨b6, 32766, none⟩ = some (.int .i64 r6.t.f6) ∧ W.cell? ⟨b6, 32767, none⟩ = some (.slice r6.a r6.t.ops.length r6.c)) ∧ (W.cell? ⟨w.heap.size, 0, none⟩ = some (.int .i64 t.f0) ∧ W.cell? ⟨w.heap.size, 1, none⟩ = some (.int .i64 t.f1) ∧ W.cell? ⟨w.heap.size, 2, none⟩ = some (.int .i64 t.f2) ∧ W.cell? ⟨w.heap.size, 3, none⟩ = some (.int .i64 t.f3) ∧ W.cell? ⟨w.heap.size, 4, none⟩ = some (.int .i64 t.f4) ∧ W.cell? ⟨w.heap.size, 5, none⟩ = some (.int .i64 t.f5) ∧ W.cell? ⟨w.heap.size, 6, none⟩ = some (.int .i64 t.f6) ∧ W.cell? ⟨w.heap.size, 7, none⟩ = some (.slice a3 t.ops.length c3)))
          (exact HX6.out _ (by (repeat (first | exact Same.refl _ _ | apply Same.alloc | apply Same.drew | refine Same.trans' ?_ k7)); done))
          (first
            | (go_at_call 18; refine Calls.mono (HS6.out _ (by (repeat (first | exact Same.refl _ _ | apply Same.alloc | apply Same.drew | refine Same.trans' ?_ k7)); done)) ?_; rintro e w7 ⟨rfl, k7⟩))
        all_goals
          go_wp2_with fail
          go_meet
          exact ⟨rfl, by (repeat (first | exact Same.refl _ _ | apply Same.alloc | apply Same.drew | refine Same.trans' ?_ k7)); done⟩
      case rest =>
        obtain ⟨rfl, hkc⟩ := hcut
        have KRC : Hid (Kept wr wc) := KR6.out.trans' hkc
        have K5C : Hid (Kept w5 wc) := K56.out.trans' hkc
        have xc := (KRC.out.block _ (lt_of_heap XR.out) (fun h => h)).trans XR.out
        clear m0 m1 m2 m3 m4 m5 m6 m7 hbx6 y0 y1 y2 y3 y4 y5 y6 y7
        obtain ⟨⟨m0, m1, m2, m3, m4, m5, m6, m7⟩, -⟩ := tx_obj xc
        have hbxc := lt_of_heap xc
        have HN : Hid (∀ ty, _) := fun ty => (HREP.out.on KRC.out).next (by omega) ty
        clear hkc xc HS6
        go_wp2_with (at_builtin; refine wpList_app rfl (.tmp 72) (.tmp 74) 22 22 rfl _ _ rfl rfl _ HN.out ?_; intro v7 w7 hR; obtain ⟨a7, c7, r7, rfl, sm7⟩ := hR; have R7 : Hid _ := r7; have SM7 : Hid _ := sm7; clear r7 sm7)
        have KW0 : Hid (Kept W0 w7) := R7.out.kept
        obtain ⟨va7, vc7, e7, t7⟩ := R7.out.val
        simp only [Value.slice.injEq, true_and] at e7
        obtain ⟨rfl, rfl⟩ := e7
        have hE7 := enc_long (c := c7) t7 (DP.out _ R7.out.kept 4097) (by rw [List.length_replicate]; decide) (by rw [List.length_replicate]; decide)
        rw [List.length_replicate] at hE7
        have HE7 : Hid _ := hE7
        have hva : ∀ i, (Value.slice va 4096 vc).ownBlock = some i → i < wr.heap.size := fun i e => (HREP.out.row.block e).2
        have O7 : Hid (OwnB wr.heap.size w7 (.slice pa lg.length pc) lg) := OwnB.kept (OwnB.kept O5.out K5C.out (fun _ _ h => h)) SM7.out (fun i e e2 => by have := hva i e2; have := (OwnB.block O5.out e).1; omega)
        clear t7 hE7 hva
        refine Calls.mono HE7.out ?_
        rintro e w8 ⟨rfl, k8⟩
        have K08 : Hid (Kept W0 w8) := KW0.out.trans' k8
        have O8 : Hid _ := OwnB.kept O7.out k8 (fun _ _ h => h)
        have x8 := (K08.out.block _ (lt_of_heap X4.out) (fun h => h)).trans X4.out
        clear m0 m1 m2 m3 m4 m5 m6 m7 hbxc
        obtain ⟨⟨m0, m1, m2, m3, m4, m5, m6, m7⟩, -⟩ := tx_obj x8
        have hbx8 := lt_of_heap x8
        have HE8 : Hid _ := enc_right (c := 1) (ts := [t]) (txs_one w8 ⟨t, a3, c3⟩) (DP.out _ (K08.out.alloc _) 1) rfl (fun x hx => by
          obtain rfl : x = t := by simpa using hx
          exact HRT.out) (by simp)
        clear k8 x8
        go_wp2_with fail
        refine Calls.mono HE8.out ?_
        rintro e w9 ⟨u9, rfl, o9, k9⟩
        obtain ⟨ua, uc, rfl, ud9, ucap9, un9, uoff9, usp9⟩ := OwnB.bytes o9
        have K89 : Hid (Kept w8 w9) := ((Same.refl _ w8).alloc _).trans' k9
        have O9 : Hid _ := OwnB.kept O8.out K89.out (fun _ _ h => h)
        have hlen1 : (log7 [t]).length = 4 + ((form (body t).length).length + ((body t).length + 2)) := by
          have e1 : (form 1).length = 1 := by rw [form_small (by decide)]; rfl
          simp [log7, ents, head4, e1]
          omega
        obtain ⟨bl1, bl2⟩ := body_len HRT.out
        have hfp := form_pos (body t).length
        have hf2 := form_two (n := (body t).length) (by omega)
        obtain ⟨g9, rfl⟩ : ∃ g9, ua = some ⟨g9, 0, none⟩ := by
          cases ua with
          | none =>
            have := (un9 rfl).1
            omega
          | some ad =>
            obtain ⟨bb, oo, sp⟩ := ad
            obtain rfl : sp = none := usp9 _ rfl
            obtain rfl : oo = 0 := (uoff9 bb oo rfl).2
            exact ⟨bb, rfl⟩
        obtain ⟨pcb1, pcb2, pcb3, pd9, -, pn9, -, -⟩ := OwnB.bytes O9.out
        simp only [Value.slice.injEq, true_and] at pcb3
        obtain ⟨rfl, rfl⟩ := pcb3
        have hE3 : N - 3 + 3 = N := by omega
        obtain ⟨E, eE⟩ : ∃ E, E = N - 3 := ⟨_, rfl⟩
        have hEi : (N : Int) - 3 = (E : Int) := by omega
        obtain ⟨hc1, hc2⟩ := HCM.out
        rw [← eE] at hc1 hc2
        have hEN : E ≤ N := by omega
        have hE0 : 0 < E := by omega
        have hEL : (lg.take E).length = E := by rw [List.length_take, ← EN.out]; omega
        have hD4 : ((log7 [t]).drop 4).length = (log7 [t]).length - 4 := List.length_drop
        obtain ⟨M1, eM1⟩ : ∃ M1, M1 = (log7 [t]).length := ⟨_, rfl⟩
        have HP1 : Hid (∀ W g, Kept w9 W → ∀ ty, ∃ v' w', (Builtin.append_ #[23, 23] ty #[.slice (some ⟨g, 0, none⟩) 0 0, .slice pa E pc]).run Try.prog W = .ok v' w' ∧ (OwnB w9.heap.size w' v' (lg.take E) ∧ Kept W w')) := fun W g kk ty => by
          have := app_full (g := g) (xs := []) (c := pc) (l := lg.take E) (BytesAt.nil W _) (BytesAt.kept (bytes_take pd9 E) kk (fun _ _ h => h)) (fun e => by have := pn9 e; omega) (by omega) (by rw [hEL]; simp; omega) ty
          rw [hEL] at this
          obtain ⟨v', w', r1, r2, r3⟩ := this
          exact ⟨v', w', r1, OwnB.lower r2 kk.size, r3⟩
        have HP2 : Hid (∀ W v, Kept w9 W → OwnB w9.heap.size W v (lg.take E) → ∀ ty, ∃ v' w', (Builtin.append_ #[23, 23] ty #[v, .slice (some ⟨g9, 4, none⟩) (M1 - 4) (uc - 4)]).run Try.prog W = .ok v' w' ∧ (OwnB w9.heap.size w' v' (lg.take E ++ (log7 [t]).drop 4) ∧ Kept w9 w')) := fun W v kk oo ty => by
          have hb : BytesAt W (some ⟨g9, 4, none⟩) ((log7 [t]).drop 4) := by
            have := bytes_sub (BytesAt.kept ud9 kk (fun _ _ h => h)) 4 ((log7 [t]).length - 4)
            rw [Nat.zero_add, List.take_of_length_le (by rw [hD4]; exact Nat.le_refl _)] at this
            exact this
          have := app_bytes (c := uc - 4) oo hb (fun e => by cases e) (by rw [hEL, hD4]; omega) kk.size ty
          rw [hD4, ← eM1] at this
          obtain ⟨v', w', r1, r2, r3⟩ := this
          exact ⟨v', w', r1, r2, kk.trans r3 (fun i hi e => absurd e (Nat.not_le.2 hi))⟩
        have HFN : Hid (dec7 (lg.take E ++ (log7 [t]).drop 4) = .error (E, 71)) := by
          show dec7 _ = _
          rw [hc1, drop_one, List.append_assoc]
          have := dec7_over (n := (body t).length) (r := body t ++ (0 :: form 1)) (by omega) (by omega) (l := T) HTT.out.2 HTT.out.1
          rw [this, hc2]
        have HBY : Hid (Byts (lg.take E ++ (log7 [t]).drop 4)) := Byts.append (Byts.take (by rw [ELG.out]; exact byts_log T) E) ((byts_log [t]).drop 4)
        have hbl : (lg.take E ++ (log7 [t]).drop 4).length ≤ 211106232532992 := by rw [List.length_append, hEL, hD4]; omega
        have HBL : Hid _ := hbl
        rw [← eM1] at hlen1 ucap9 ⊢
        have hM7 : 7 ≤ M1 := by omega
        have hM7i : ¬ (M1 : Int) < 7 := by omega
        have d20 : decide ((M1 : Int) < 7) = false := decide_eq_false (by omega)
        have hu4 : 4 < uc := by omega
        have hu4' : ¬ uc = 4 := by omega
        have hM4 : (4 : Int) ≤ (M1 : Int) := by omega
        have hMi : (M1 : Int) ≤ 1000 := by omega
        have hpcE : E ≤ pc := by omega
        have KF : Hid (Kept w w9) := (K4.out.trans' K08.out).trans' K89.out
        have hEE : ((E : Int) == (E : Int)) = true := by simp
        clear o9 k9 ud9 un9 uoff9 usp9 pd9 pn9 hE3 eE hc1 hc2 hD4 eM1 hbl bl1 bl2 hfp hf2 hlen1 HREP TAT DP ELG EN HCM HTT HT2 O4 X4 XR HX6 TA6 hEL
        go_upto_region 22 with fail
        go_cut [18] (fun s18 wx => OwnB w9.heap.size wx s18 (lg.take E ++ (log7 [t]).drop 4) ∧ Kept w9 wx ∧ ∃ a n c, s18 = .slice a n c)
        case first =>
          go_region_held3 (fun W => Kept w9 W)
            (exact (by (repeat (first | exact kb | exact Same.refl _ _ | apply Same.alloc | apply Same.drew | refine Same.trans' ?_ ka)); done))
            (first
              | (refine step_app rfl (.tmp 106) (.tmp 109) 23 rfl (.slice (some ⟨_, 0, none⟩) 0 0) (.slice pa E pc) rfl rfl _ (HP1.out _ _ (by (repeat (first | exact Same.refl _ _ | apply Same.alloc | apply Same.drew)); done)) ?_; rintro va' wa ⟨oa', ka⟩)
              | (refine step_app rfl (.tmp 110) (.tmp 112) 23 rfl _ (.slice (some ⟨g9, 4, none⟩) (M1 - 4) (uc - 4)) rfl rfl _ (HP2.out _ _ (by (repeat (first | exact Same.refl _ _ | apply Same.alloc | apply Same.drew | refine Same.trans' ?_ ka)); done) (by first | exact oa' | exact OwnB.kept oa' ((Same.refl (fun _ => False) _).drew) (fun _ _ h => h))) ?_; rintro vb' wb ⟨ob', kb⟩))
          all_goals
            go_wp2_with fail
            go_meet
            refine ⟨by first | exact ob' | exact OwnB.kept ob' ((Same.refl (fun _ => False) _).drew) (fun _ _ h => h), by (repeat (first | exact kb | apply Same.drew)); done, ?_⟩
            obtain ⟨sa, sc, e, -⟩ := OwnB.bytes ob'
            exact ⟨_, _, _, e⟩
        case rest =>
          obtain ⟨oc, kc, sa, sn, sc, rfl⟩ := hcut
          have KC : Hid (Kept w wc) := KF.out.trans' kc
          have HDF : Hid _ := dec7_own_no oc HBY.out HBL.out HFN.out
          clear oc kc
          go_wp2_with fail
          refine Calls.mono HDF.out ?_
          rintro e w10 ⟨rfl, k10⟩
          have K10 : Hid _ := KC.out.trans' k10
          clear k10
          go_wp2_with fail
          go_ret
          exact ⟨rfl, K10.out⟩
end Go.Proofs.Ythnhfahkanpjjab
