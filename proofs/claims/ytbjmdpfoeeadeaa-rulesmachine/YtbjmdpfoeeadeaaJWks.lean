/- What is proved: what the document tells of a log's session rows, and what the law's walk over them tells: the same; the log fits a machine's memory. -/
import Derived.Test.YtbjmdpfoeeadeaaJSes
namespace Go.Proofs.Ytbjmdpfoeeadeaa.Sw
open Go.RowKit

theorem pairf (k t s i f u : Int) (y : ByteArray) (k' t' s' i' f' u' : Int) (y' : ByteArray) (w : World) : Calls Try.prog 23 #[.agg #[.int .i64 k, .int .i64 t, .int .i64 s, .int .i64 i, .int .i64 f, .int .i64 u, .string y], .agg #[.int .i64 k', .int .i64 t', .int .i64 s', .int .i64 i', .int .i64 f', .int .i64 u', .string y']] w fun e w' => ∃ v, e = .returned (.tuple #[v, .bool (!(fol ⟨k, t, s, i, f, u, y⟩ ⟨k', t', s', i', f', u', y'⟩).isEmpty)]) ∧ OwnL w.heap.size w' v (fol ⟨k, t, s, i, f, u, y⟩ ⟨k', t', s', i', f', u', y'⟩) ∧ Kept w w' := pair17 ⟨k, t, s, i, f, u, y⟩ ⟨k', t', s', i', f', u', y'⟩ w
set_option maxRecDepth 100000 in
set_option maxHeartbeats 3200000 in
theorem walked17 (w : World) (a : Option Addr) (c : Nat) (l : List TxR) (h : TxsAt w a l) (hn : l.length ≤ 4096) :
    Calls Try.prog 25 #[.slice a l.length c] w fun e w' => ∃ v, e = .returned v ∧ OwnL w.heap.size w' v (adj (SS (l.map TxR.t)) l.length) ∧ Kept w w' := by
  have HSE : Hid (∀ W, Kept w W → _) := fun W k => sessions17 W a c l (h.on k) hn
  obtain ⟨n, en⟩ : ∃ n, n = l.length := ⟨_, rfl⟩
  rw [← en] at hn HSE ⊢
  obtain ⟨Z, eZ⟩ : ∃ Z, Z = SS (l.map TxR.t) := ⟨_, rfl⟩
  have HZL : Hid (Z.length = n) := by show Z.length = n; rw [eZ, SS_len, List.length_map, en]
  rw [← eZ] at HSE ⊢
  clear h en eZ
  go_enter Try.func25, Try.ntmps25
  go_wp2_with fail
  refine Calls.mono (HSE.out _ (Same.refl _ _)) ?_
  rintro e W2 ⟨a2, c2, rfl, o2, k2⟩
  have R2 : Hid (Rw.RowsAt W2 a2 Z) := by
    have h9 : W2.ownsRow w.heap.size 43 7 (.slice a2 n c2) Z.length (Rw.rwc Z) := o2
    exact (own_rows h9).2
  have K2 : Hid (Kept w W2) := k2
  clear o2 k2 HSE
  go_wp2_with fail
  go_loopw [4, 5] (fun s4 s5 wr => ∃ (j : Nat) (ao : Option Addr) (mo co : Nat), s5 = .int .i64 j ∧ 1 ≤ j ∧ (j ≤ n ∨ j = 1) ∧ s4 = .slice ao mo co ∧ OwnL W2.heap.size wr (.slice ao mo co) (adj Z j) ∧ Kept W2 wr) (fun _ s5 _ => n - (intOf s5).toNat)
  case atStart => exact ⟨1, none, 0, 0, rfl, Nat.le_refl _, .inr rfl, rfl, OwnL.nil _ _, Same.refl _ _⟩
  case round =>
    obtain ⟨j, ao, mo, co, rfl, hj1, hj, rfl, oj, kj⟩ := hrel
    rename World => WL
    have OJ : Hid (OwnL W2.heap.size WL (.slice ao mo co) (adj Z j)) := oj
    have KJ : Hid (Kept W2 WL) := kj
    clear oj kj
    by_cases hlt : j < n
    case pos =>
      have d1 : decide ((j : Int) < (n : Int)) = true := decide_eq_true (by omega)
      have hlt2 : (j : Int) < (n : Int) := by omega
      obtain ⟨p, ep⟩ : ∃ p, j = p + 1 := ⟨j - 1, by omega⟩
      have EP : Hid (j = p + 1) := ep
      have hpj : (j : Int) - 1 = (p : Int) := by omega
      have hwp : IntKind.i64.wrap (p : Int) = (p : Int) := by rw [IntKind.wrap_i64] <;> omega
      have hpn : p < n := by omega
      have hpn2 : (p : Int) < (n : Int) := by omega
      have hp0 : (0 : Int) ≤ (p : Int) := by omega
      have hws : IntKind.i64.wrap ((j : Int) + 1) = (j : Int) + 1 := by rw [IntKind.wrap_i64] <;> omega
      clear ep
      obtain ⟨r, hr⟩ : ∃ r, Z[j]? = some r := ⟨_, List.getElem?_eq_getElem (by rw [HZL.out]; exact hlt)⟩
      obtain ⟨x, hx⟩ : ∃ x, Z[p]? = some x := ⟨_, List.getElem?_eq_getElem (by rw [HZL.out]; exact hpn)⟩
      have HAD : Hid (adj Z (j + 1) = adj Z j ++ fol x r) := adj_next hj1 (by rw [show j - 1 = p by have := EP.out; omega]; exact hx) hr
      obtain ⟨lb, lo, ea, hlb, q0, q1, q2, q3, q4, q5, q6⟩ := (R2.out.on KJ.out) j r hr
      subst ea
      have HRX : Hid (∀ W', Kept WL W' → Rw.RowsAt W' (some ⟨lb, lo, none⟩) Z) := fun W' k' => R2.out.on (KJ.out.trans' k')
      have hlx := fol_len x r
      have HLX : Hid ((fol x r).length ≤ 1) := hlx
      have HLA : Hid ((adj Z j).length ≤ j) := adj_len Z j
      obtain ⟨rkind, rtime, rseq, rindex, rfrm, rtil, rbody⟩ := r
      obtain ⟨pkind, ptime, pseq, pindex, pfrm, ptil, pbody⟩ := x
      have HBX : Hid (∀ W', Kept WL W' → Kept WL W' ∧ (W'.cell? ⟨lb, lo + p * 7, none⟩ = some (.int .i64 pkind) ∧ W'.cell? ⟨lb, lo + p * 7 + 1, none⟩ = some (.int .i64 ptime) ∧ W'.cell? ⟨lb, lo + p * 7 + 2, none⟩ = some (.int .i64 pseq) ∧ W'.cell? ⟨lb, lo + p * 7 + 3, none⟩ = some (.int .i64 pindex) ∧ W'.cell? ⟨lb, lo + p * 7 + 4, none⟩ = some (.int .i64 pfrm) ∧ W'.cell? ⟨lb, lo + p * 7 + 5, none⟩ = some (.int .i64 ptil) ∧ W'.cell? ⟨lb, lo + p * 7 + 6, none⟩ = some (.string pbody)) ∧ (W'.cell? ⟨lb, lo + j * 7, none⟩ = some (.int .i64 rkind) ∧ W'.cell? ⟨lb, lo + j * 7 + 1, none⟩ = some (.int .i64 rtime) ∧ W'.cell? ⟨lb, lo + j * 7 + 2, none⟩ = some (.int .i64 rseq) ∧ W'.cell? ⟨lb, lo + j * 7 + 3, none⟩ = some (.int .i64 rindex) ∧ W'.cell? ⟨lb, lo + j * 7 + 4, none⟩ = some (.int .i64 rfrm) ∧ W'.cell? ⟨lb, lo + j * 7 + 5, none⟩ = some (.int .i64 rtil) ∧ W'.cell? ⟨lb, lo + j * 7 + 6, none⟩ = some (.string rbody))) := fun W' k' => ⟨k', (by
        obtain ⟨b, o, e, -, x0, x1, x2, x3, x4, x5, x6⟩ := HRX.out W' k' p _ hx
        cases e
        exact ⟨x0, x1, x2, x3, x4, x5, x6⟩), (by
        obtain ⟨b, o, e, -, x0, x1, x2, x3, x4, x5, x6⟩ := HRX.out W' k' j _ hr
        cases e
        exact ⟨x0, x1, x2, x3, x4, x5, x6⟩)⟩
      have PR : Hid (∀ W, Kept WL W → Calls _ _ _ _ fun e w' => ∃ a m c, e = .returned (.tuple #[.slice a m c, .bool (!(fol ⟨pkind, ptime, pseq, pindex, pfrm, ptil, pbody⟩ ⟨rkind, rtime, rseq, rindex, rfrm, rtil, rbody⟩).isEmpty)]) ∧ OwnL WL.heap.size w' (.slice a m c) (fol ⟨pkind, ptime, pseq, pindex, pfrm, ptil, pbody⟩ ⟨rkind, rtime, rseq, rindex, rfrm, rtil, rbody⟩) ∧ Kept WL w') := fun W (kw : Kept WL W) => Calls.mono (pairf pkind ptime pseq pindex pfrm ptil pbody rkind rtime rseq rindex rfrm rtil rbody W) (fun e w' hh => by
        obtain ⟨v, rfl, o, kx⟩ := hh
        obtain ⟨a, c, ev, -⟩ := row_shape o
        subst ev
        exact ⟨_, _, _, rfl, row_base o kw.size, kw.trans' kx⟩)
      clear hr hx hlx q0 q1 q2 q3 q4 q5 q6
      generalize fol ⟨pkind, ptime, pseq, pindex, pfrm, ptil, pbody⟩ ⟨rkind, rtime, rseq, rindex, rfrm, rtil, rbody⟩ = FL at *
      obtain ⟨bb, hbb⟩ : ∃ bb, bb = !FL.isEmpty := ⟨_, rfl⟩
      rw [← hbb] at PR
      have HBB : Hid (bb = !FL.isEmpty) := hbb
      clear hbb
      obtain ⟨-, ⟨x0, x1, x2, x3, x4, x5, x6⟩, ⟨y0, y1, y2, y3, y4, y5, y6⟩⟩ := HBX.out WL (Same.refl _ _)
      go_upto_region 6 with fail
      go_cut [6, 7] (fun s6 s7 wx => ∃ a m c, s6 = .slice a m c ∧ s7 = .bool bb ∧ OwnL WL.heap.size wx (.slice a m c) FL ∧ Kept WL wx)
      case first =>
        go_region_held3 (fun w' => Kept WL w' ∧ (w'.cell? ⟨lb, lo + p * 7, none⟩ = some (.int .i64 pkind) ∧ w'.cell? ⟨lb, lo + p * 7 + 1, none⟩ = some (.int .i64 ptime) ∧ w'.cell? ⟨lb, lo + p * 7 + 2, none⟩ = some (.int .i64 pseq) ∧ w'.cell? ⟨lb, lo + p * 7 + 3, none⟩ = some (.int .i64 pindex) ∧ w'.cell? ⟨lb, lo + p * 7 + 4, none⟩ = some (.int .i64 pfrm) ∧ w'.cell? ⟨lb, lo + p * 7 + 5, none⟩ = some (.int .i64 ptil) ∧ w'.cell? ⟨lb, lo + p * 7 + 6, none⟩ = some (.string pbody)) ∧ (w'.cell? ⟨lb, lo + j * 7, none⟩ = some (.int .i64 rkind) ∧ w'.cell? ⟨lb, lo + j * 7 + 1, none⟩ = some (.int .i64 rtime) ∧ w'.cell? ⟨lb, lo + j * 7 + 2, none⟩ = some (.int .i64 rseq) ∧ w'.cell? ⟨lb, lo + j * 7 + 3, none⟩ = some (.int .i64 rindex) ∧ w'.cell? ⟨lb, lo + j * 7 + 4, none⟩ = some (.int .i64 rfrm) ∧ w'.cell? ⟨lb, lo + j * 7 + 5, none⟩ = some (.int .i64 rtil) ∧ w'.cell? ⟨lb, lo + j * 7 + 6, none⟩ = some (.string rbody)))
          (exact HBX.out _ (by (repeat (first | assumption | exact Same.refl _ _ | apply Same.alloc | apply Same.drew | apply Same.drewN)); done))
          ((go_at_call 23; refine Calls.mono (PR.out _ (by (repeat (first | assumption | exact Same.refl _ _ | apply Same.alloc | apply Same.drew | apply Same.drewN)); done)) ?_; rintro r wq ⟨a9, m9, c9, rfl, o9, kx9⟩; have O9 : Hid _ := o9; clear o9))
        all_goals
          go_wp2_with fail
          go_meet
          exact ⟨_, _, _, rfl, rfl, O9.out, (by (repeat (first | assumption | exact Same.refl _ _ | apply Same.alloc | apply Same.drew | apply Same.drewN)); done)⟩
      case rest =>
        obtain ⟨a6, m6, c6, rfl, rfl, o6, k6⟩ := hcut
        have O6 : Hid (OwnL WL.heap.size wc (.slice a6 m6 c6) FL) := o6
        have K6 : Hid (Kept W2 wc) := KJ.out.trans' k6
        have OJ6 : Hid (OwnL W2.heap.size wc (.slice ao mo co) (adj Z j)) := row_kept OJ.out k6 (fun _ _ e => e)
        have KL6 : Hid (Kept WL wc) := k6
        have WSZ : Hid (W2.heap.size ≤ WL.heap.size) := KJ.out.size
        clear o6 k6 x0 x1 x2 x3 x4 x5 x6 y0 y1 y2 y3 y4 y5 y6 PR
        cases bb with
        | false =>
          have e0 : FL = [] := by have h9 := HBB.out; simpa using h9
          go_wp2_with fail
          go_roundw
          case rel => exact ⟨j + 1, ao, mo, co, by simp, by omega, .inl hlt, rfl, by rw [HAD.out, e0, List.append_nil]; exact OJ6.out, K6.out⟩
          case measure => simp only [intOf]; omega
        | true =>
          have HAP : Hid (∀ ty, ∃ v' w', (Builtin.append_ #[26, 26] ty #[.slice ao mo co, .slice a6 m6 c6]).run Try.prog wc = .ok v' w' ∧ OwnL W2.heap.size w' v' (adj Z (j + 1)) ∧ Kept W2 w') := fun ty => by
            obtain ⟨v', w', r1, r2, r3, -⟩ := app_vls OJ6.out O6.out (by have h1 := HLX.out; have h2 := HLA.out; omega) (Nat.le_trans WSZ.out KL6.out.size) ty
            refine ⟨v', w', r1, by rw [HAD.out]; exact r2, ?_⟩
            refine K6.out.trans r3 (fun k hk e => ?_)
            have := (row_block OJ6.out e).1
            omega
          go_wp2_with (at_builtin; apply Hid.out)
          refine Ch.wpList_app rfl (.tmp 30) (.tmp 31) 26 rfl (.slice ao mo co) (.slice a6 m6 c6) rfl rfl _ HAP.out ?_
          rintro v7 W7 ⟨o7, k7⟩
          obtain ⟨a7, m7, c7, ev⟩ : ∃ a m c, v7 = .slice a m c := by
            obtain ⟨a, c, ev, -⟩ := row_shape o7
            exact ⟨_, _, _, ev⟩
          subst ev
          have O7 : Hid _ := And.intro o7 k7
          clear o7 k7 HAP
          go_wp2_with fail
          go_roundw
          case rel => exact ⟨j + 1, a7, m7, c7, by simp, by omega, .inl hlt, rfl, O7.out.1, O7.out.2⟩
          case measure => simp only [intOf]; omega
    have d1 : decide ((j : Int) < (n : Int)) = false := decide_eq_false (by omega)
    have hlt3 : ¬ (j : Int) < (n : Int) := by omega
    have hlt4 : ¬ j < n := hlt
    have HE : Hid (adj Z n = adj Z j) := by
      show adj Z n = adj Z j
      rcases hj with hj | hj
      · rw [show n = j by omega]
      · subst hj
        have h01 : n = 0 ∨ n = 1 := by omega
        rcases h01 with h01 | h01 <;> rw [h01] <;> rfl
    go_wp2_with fail
    go_ret
    refine ⟨_, rfl, ?_, K2.out.trans' KJ.out⟩
    rw [HE.out]
    exact row_base OJ.out K2.out.size
theorem back17 (r : Rw.RwM) (w : World) : Calls Try.prog 42 #[Rw.rowV r] w fun e w' => e = .returned (Rw.rowV r) ∧ Kept w w' := by
  have HB : Hid _ := heap_new (w.alloc (rwO r 43)) (rwO r 42)
  unfold Rw.rowV
  go_enter Try.func42, Try.ntmps42
  go_wp2_with fail
  refine bodyPost_ret (Rw.results_c (a := 2) (t := 42) rfl rfl (Rw.loadVar_row (r := r) (.inl rfl) ?_)) rfl ⟨rfl, ((Same.refl _ w).alloc _).alloc _⟩
  have := HB.out
  rw [World.size_alloc] at this
  exact this
set_option maxRecDepth 100000 in
set_option maxHeartbeats 3200000 in
theorem walk17 (w : World) (a : Option Addr) (c : Nat) (l : List TxR) (h : TxsAt w a l) (hn : l.length ≤ 4096) (hr : ∀ t ∈ l.map TxR.t, Right t) :
    Calls Try.prog 24 #[.slice a l.length c] w fun e w' => ∃ v, e = .returned (.tuple #[v, .bool true]) ∧ OwnL w.heap.size w' v (adj (SS (l.map TxR.t)) l.length) ∧ Kept w w' := by
  have HSE : Hid (∀ W, Kept w W → _) := fun W k => sessions17 W a c l (h.on k) hn
  have HNW : Hid (∀ W, _) := fun W => new17 W
  obtain ⟨T, eT⟩ : ∃ T, T = l.map TxR.t := ⟨_, rfl⟩
  rw [← eT] at HSE hr ⊢
  obtain ⟨n, en⟩ : ∃ n, n = l.length := ⟨_, rfl⟩
  have HTL : Hid (T.length = n) := by show T.length = n; rw [eT, List.length_map, en]
  rw [← en] at hn HSE ⊢
  have HCZ : Hid (∀ {j r}, (SS T)[j]? = some r → codW (knw (SS T) j) r = 0 ∧ adj (SS T) (j + 1) = adj (SS T) j ++ fol (knw (SS T) j) r) := fun hx => ⟨cod_zero hr (by rw [HTL.out]; exact hn) hx, adj_walk hr (by rw [HTL.out]; exact hn) hx⟩
  have HZL : Hid ((SS T).length = n) := by show (SS T).length = n; rw [SS_len, HTL.out]
  generalize SS T = Z at *
  clear h en eT hr HTL
  go_enter Try.func24, Try.ntmps24
  go_wp2_with fail
  refine Calls.mono (HNW.out _) ?_
  rintro e W1 ⟨wb, rfl, hwb, b1, k1⟩
  have B1 : Hid (W1.heap[wb]? = some (rwO q0R 81)) := b1
  have K1 : Hid (Kept w W1) := k1
  have HWB : Hid (w.heap.size ≤ wb) := hwb
  clear b1 k1 hwb
  go_wp2_with fail
  refine Calls.mono (HSE.out _ K1.out) ?_
  rintro e W2 ⟨a2, c2, rfl, o2, k2⟩
  have O2 : Hid (W2.ownsRow W1.heap.size 43 7 (.slice a2 n c2) Z.length (Rw.rwc Z)) := o2
  have R2 : Hid (Rw.RowsAt W2 a2 Z) := (own_rows O2.out).2
  have K2 : Hid (Kept w W2) := K1.out.trans' k2
  have B2 : Hid (W2.heap[wb]? = some (rwO q0R 81)) := (k2.block _ (lt_of_heap B1.out) (fun e => e)).trans B1.out
  have NQ : Hid (∀ {k}, InB a2 Z.length k → k ≠ wb) := fun {k} hk e => by
    obtain ⟨hpos, off, ea⟩ := hk
    obtain ⟨-, cur, hc⟩ := row_block O2.out (k := k) (by rw [ea]; rfl)
    exact types_ne (e ▸ hc) B2.out (by decide)
  clear o2 k2 HSE HNW
  go_wp2_with fail
  go_loopw [5, 16] (fun s5 s16 wr => ∃ (j : Nat) (ao : Option Addr) (mo co : Nat), s16 = .int .i64 j ∧ j ≤ n ∧ s5 = .slice ao mo co ∧ OwnL W2.heap.size wr (.slice ao mo co) (adj Z j) ∧ wr.heap[wb]? = some (rwO (knw Z j) 81) ∧ Same (fun k => k = wb) W2 wr) (fun _ s16 _ => n - (intOf s16).toNat)
  case atStart => exact ⟨0, none, 0, 0, rfl, Nat.zero_le _, rfl, OwnL.nil _ _, B2.out, Same.refl _ _⟩
  case round =>
    obtain ⟨j, ao, mo, co, rfl, hj, rfl, oj, bj, sj⟩ := hrel
    rename World => WL
    have OJ : Hid (OwnL W2.heap.size WL (.slice ao mo co) (adj Z j)) := oj
    have BJ : Hid (WL.heap[wb]? = some (rwO (knw Z j) 81)) := bj
    have SJ : Hid (Same (fun k => k = wb) W2 WL) := sj
    clear oj bj sj
    by_cases hlt : j < n
    case pos =>
      have d1 : decide ((j : Int) < (n : Int)) = true := decide_eq_true (by omega)
      have hlt2 : (j : Int) < (n : Int) := by omega
      have hws : IntKind.i64.wrap ((j : Int) + 1) = (j : Int) + 1 := by rw [IntKind.wrap_i64] <;> omega
      obtain ⟨r, hr⟩ : ∃ r, Z[j]? = some r := ⟨_, List.getElem?_eq_getElem (by rw [HZL.out]; exact hlt)⟩
      obtain ⟨hcz, had⟩ := HCZ.out hr
      have HAD : Hid (adj Z (j + 1) = adj Z j ++ fol (knw Z j) r) := had
      have HKN : Hid (knw Z (j + 1) = lsR r) := knw_next hr
      have RL : Rw.RowsAt WL a2 Z := R2.out.kept SJ.out (fun k hk e => NQ.out hk e)
      obtain ⟨lb, lo, ea, hlb, q0, q1, q2, q3, q4, q5, q6⟩ := RL j r hr
      subst ea
      have TK : Hid (∀ W, Kept WL W → _) := fun W (k : Kept WL W) => take17 (r := r) ((k.block _ (lt_of_heap BJ.out) (fun e => e)).trans BJ.out)
      have TL : Hid (lisW (knw Z j) r = fol (knw Z j) r ∧ nxW (knw Z j) r = lsR r) := ⟨by unfold lisW; rw [if_pos hcz], by unfold nxW; rw [if_pos hcz]⟩
      have TC : Hid (codW (knw Z j) r = 0) := hcz
      have BK : Hid (∀ W, _) := fun W => back17 r W
      have HLX : Hid ((fol (knw Z j) r).length ≤ 1) := fol_len _ _
      have HLA : Hid ((adj Z j).length ≤ j) := adj_len Z j
      unfold Rw.rowV at TK BK
      clear hr hcz had RL
      go_wp2_with fail
      refine Calls.mono (BK.out _) ?_
      rintro e W3 ⟨rfl, k3⟩
      have K3 : Hid (Kept WL W3) := ((Same.refl _ _).alloc _).trans' k3
      clear k3 q0 q1 q2 q3 q4 q5 q6 hlb
      go_wp2_with fail
      refine Calls.mono (TK.out _ K3.out) ?_
      rintro e W4 ⟨v4, rfl, o4, b4, s4⟩
      rw [TL.out.1] at o4
      rw [TL.out.2] at b4
      rw [TC.out]
      obtain ⟨a4, m4, c4, ev⟩ : ∃ a m c, v4 = .slice a m c := by
        obtain ⟨a, c, ev, -⟩ := row_shape o4
        exact ⟨_, _, _, ev⟩
      subst ev
      have O4 : Hid (OwnL W3.heap.size W4 (.slice a4 m4 c4) (fol (knw Z j) r)) := o4
      have B4 : Hid (W4.heap[wb]? = some (rwO (lsR r) 81)) := b4
      have S4 : Hid (Same (fun k => k = wb) W2 W4) := (SJ.out.trans' (Kept.to K3.out _)).trans' s4
      have OJ4 : Hid (OwnL W2.heap.size W4 (.slice ao mo co) (adj Z j)) := row_kept (row_kept OJ.out K3.out (fun _ _ e => e)) s4 (fun k hk e => by
        obtain ⟨-, cur, h2⟩ := row_block OJ.out hk
        exact types_ne (e ▸ h2) BJ.out (by decide))
      have HAP : Hid (∀ ty, ∃ v' w', (Builtin.append_ #[26, 26] ty #[.slice ao mo co, .slice a4 m4 c4]).run Try.prog W4 = .ok v' w' ∧ OwnL W2.heap.size w' v' (adj Z (j + 1)) ∧ w'.heap[wb]? = some (rwO (knw Z (j + 1)) 81) ∧ Same (fun k => k = wb) W2 w') := fun ty => by
        obtain ⟨v', w', r1, r2, r3, -⟩ := app_vls OJ4.out O4.out (by have h1 := HLX.out; have h2 := HLA.out; omega) S4.out.size ty
        refine ⟨v', w', r1, by rw [HAD.out]; exact r2, ?_, ?_⟩
        · rw [HKN.out]
          refine (r3.block _ (lt_of_heap B4.out) (fun e => ?_)).trans B4.out
          obtain ⟨-, cur, h2⟩ := row_block OJ4.out e
          exact types_ne h2 B4.out (by decide)
        · refine S4.out.trans r3 (fun k hk e => ?_)
          have := (row_block OJ4.out e).1
          omega
      clear o4 b4 s4 TK BK
      go_wp2_with (at_builtin; apply Hid.out)
      refine Ch.wpList_app rfl (.tmp 29) (.tmp 30) 26 rfl (.slice ao mo co) (.slice a4 m4 c4) rfl rfl _ HAP.out ?_
      rintro v7 W7 ⟨o7, b7, s7⟩
      obtain ⟨a7, m7, c7, ev⟩ : ∃ a m c, v7 = .slice a m c := by
        obtain ⟨a, c, ev, -⟩ := row_shape o7
        exact ⟨_, _, _, ev⟩
      subst ev
      have O7 : Hid _ := And.intro o7 (And.intro b7 s7)
      clear o7 b7 s7 HAP
      go_wp2_with fail
      go_roundw
      case rel => exact ⟨j + 1, a7, m7, c7, by simp, hlt, rfl, O7.out.1, O7.out.2.1, O7.out.2.2⟩
      case measure => simp only [intOf]; omega
    obtain rfl : n = j := by omega
    have d1 : decide ((n : Int) < (n : Int)) = false := decide_eq_false (by omega)
    go_wp2_with fail
    go_ret2
    exact ⟨_, rfl, row_base OJ.out K2.out.size, K2.out.trans SJ.out (fun k hk e => by have := HWB.out; omega)⟩
end Go.Proofs.Ytbjmdpfoeeadeaa.Sw
