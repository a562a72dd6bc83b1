/- What is proved: the law RulesWalk answers true and leaves all that was there as it was; the rows fit a machine's memory. -/
import Derived.Test.YtbjmdpfoeeadeaaJTk
import Derived.Test.YtbjmdpfoeeadeaaNOpen
namespace Go.Proofs.Ytbjmdpfoeeadeaa.Sw
open Go.RowKit

theorem plain_f (k t s i f u : Int) (y : ByteArray) (w : World) : Calls Try.prog 16 #[.agg #[.int .i64 k, .int .i64 t, .int .i64 s, .int .i64 i, .int .i64 f, .int .i64 u, .string y]] w fun e w' => e = .returned (.agg #[.int .i64 k, .int .i64 t, .int .i64 s, .int .i64 i, .int .i64 f, .int .i64 u, .string y]) ∧ Kept w w' := Rw.plain_any ⟨k, t, s, i, f, u, y⟩ w
theorem before_f (o k t s i f u : Int) (y : ByteArray) (k' t' s' i' f' u' : Int) (y' : ByteArray) (w : World) : Calls Try.prog 21 #[.int .i64 o, .agg #[.int .i64 k, .int .i64 t, .int .i64 s, .int .i64 i, .int .i64 f, .int .i64 u, .string y], .agg #[.int .i64 k', .int .i64 t', .int .i64 s', .int .i64 i', .int .i64 f', .int .i64 u', .string y']] w fun e w' => e = .returned (.bool (Rw.bef o ⟨k, t, s, i, f, u, y⟩ ⟨k', t', s', i', f', u', y'⟩)) ∧ Kept w w' := Rw.before_any o ⟨k, t, s, i, f, u, y⟩ ⟨k', t', s', i', f', u', y'⟩ w
theorem rvalid_f (k t s i f u : Int) (y : ByteArray) (w : World) : Calls Try.prog 22 #[.agg #[.int .i64 k, .int .i64 t, .int .i64 s, .int .i64 i, .int .i64 f, .int .i64 u, .string y]] w fun e w' => e = .returned (.bool (decide (Rw.rightR ⟨k, t, s, i, f, u, y⟩))) ∧ Kept w w' := Rw.validR9_any ⟨k, t, s, i, f, u, y⟩ w
theorem pair_f (k t s i f u : Int) (y : ByteArray) (k' t' s' i' f' u' : Int) (y' : ByteArray) (w : World) : Calls Try.prog 23 #[.agg #[.int .i64 k, .int .i64 t, .int .i64 s, .int .i64 i, .int .i64 f, .int .i64 u, .string y], .agg #[.int .i64 k', .int .i64 t', .int .i64 s', .int .i64 i', .int .i64 f', .int .i64 u', .string y']] w fun e w' => ∃ v b, e = .returned (.tuple #[v, .bool b]) ∧ OwnL w.heap.size w' v (fol ⟨k, t, s, i, f, u, y⟩ ⟨k', t', s', i', f', u', y'⟩) ∧ Kept w w' := (pair17 ⟨k, t, s, i, f, u, y⟩ ⟨k', t', s', i', f', u', y'⟩ w).mono fun e w' h => by
  obtain ⟨v, rfl, o, kk⟩ := h
  exact ⟨v, _, rfl, o, kk⟩
/-- The row that was taken last, and its place. -/
def atO (o : Option (Nat × Rw.RwM)) : Int := match o with
  | none => -1
  | some x => (x.1 : Int)
def laO (o : Option (Nat × Rw.RwM)) : Rw.RwM := match o with
  | none => q0R
  | some x => lsR x.2
theorem cod_first {r : Rw.RwM} (hr : Rw.rightR r) (h3 : r.kind = 3) : codW q0R r = 0 := by
  unfold codW
  rw [if_neg (by simpa using hr), if_neg (by simpa using h3), if_neg]
  have ht := hr.2.1.1
  have hb : Rw.bef 2 q0R r = true := (Rw.bef_iff 2 q0R r).2 ⟨.inr rfl, .inl (by show (-1 : Int) < r.time; omega)⟩
  have : Rw.comp 2 q0R r = -1 := of_decide_eq_true hb
  omega
theorem fol_first {r : Rw.RwM} (hr : Rw.rightR r) : fol q0R r = [] := by
  unfold fol
  rw [if_pos]
  have ht := hr.2.1.1
  show ¬ r.time = -1
  omega
theorem cod_right {p r : Rw.RwM} (hr : Rw.rightR r) (h3 : r.kind = 3) : codW (lsR p) r = if Rw.bef 2 p r = true then 0 else 161 := by
  unfold codW
  rw [if_neg (by simpa using hr), if_neg (by simpa using h3), comp_ls]
  rcases Rw.comp_cases 2 p r with h | h | h
  · have hb : Rw.bef 2 p r = true := decide_eq_true h
    rw [if_neg (by omega), if_pos hb]
  · have hb : ¬ Rw.bef 2 p r = true := by unfold Rw.bef; rw [decide_eq_true_iff]; omega
    rw [if_pos (by omega), if_neg hb]
  · have hb : ¬ Rw.bef 2 p r = true := by unfold Rw.bef; rw [decide_eq_true_iff]; omega
    rw [if_pos (by omega), if_neg hb]
theorem cod_wrong {q r : Rw.RwM} (h : ¬ Rw.rightR r) : codW q r = 90 := by unfold codW; rw [if_pos h]
theorem cod_kind {q r : Rw.RwM} (h : ¬ r.kind = 3) : codW q r = 90 := by
  unfold codW
  by_cases hr : Rw.rightR r
  · rw [if_neg (by simpa using hr), if_pos h]
  · rw [if_pos hr]
theorem own_len {base : Nat} {w : World} {a : Option Addr} {n c : Nat} {l : List Vl} (h : OwnL base w (.slice a n c) l) : n = l.length := by
  obtain ⟨a', c', e, -⟩ := row_shape h
  injection e
theorem nil_of {base : Nat} {w : World} {a : Option Addr} {m c : Nat} {q r : Rw.RwM} (o : OwnL base w (.slice a m c) (lisW q r)) (h : codW q r ≠ 0) : m = 0 := by
  have e : lisW q r = [] := by unfold lisW; rw [if_neg h]
  rw [e] at o
  obtain ⟨a', c', ev, -⟩ := row_shape o
  injection ev
set_option maxRecDepth 100000 in
set_option maxHeartbeats 3200000 in
theorem walk_law (l : List Rw.RwM) (a : Option Addr) (c : Nat) (w : World) (h : Rw.ArgR w a c l) :
    Calls Try.prog 6 #[.slice a l.length c] w fun e w' => e = .returned (.bool true) ∧ Kept w w' := by
  have HA : Hid (∀ W, _) := fun W => anchor17 W
  have HNW : Hid (∀ W, _) := fun W => new17 W
  have HR : Hid (Rw.ArgR w a c l) := h
  obtain ⟨n, en⟩ : ∃ n, n = l.length := ⟨_, rfl⟩
  have EN : Hid (n = l.length) := en
  rw [← en]
  have hn : n ≤ 2199023255488 := by rw [en]; exact h.len
  clear h en
  go_enter Try.func6, Try.ntmps6
  go_wp2_with fail
  refine Calls.mono (HA.out _) ?_
  rintro e W1 ⟨rfl, k1⟩
  have K1 : Hid (Kept w W1) := k1
  clear k1
  go_wp2_with fail
  refine Calls.mono (HNW.out _) ?_
  rintro e W2 ⟨wb, rfl, hwb, b2, k2⟩
  have K2 : Hid (Kept w W2) := K1.out.trans' k2
  have B2 : Hid (W2.heap[wb]? = some (rwO q0R 81)) := b2
  have HWB : Hid (w.heap.size ≤ wb) := Nat.le_trans K1.out.size hwb
  clear k2 b2 hwb
  go_wp2_with fail
  go_loopw [4, 18] (fun s4 s18 wr => ∃ (j : Nat) (o : Option (Nat × Rw.RwM)), s18 = .int .i64 j ∧ j ≤ n ∧ s4 = .int .i64 (atO o) ∧ (∀ x, o = some x → l[x.1]? = some x.2 ∧ x.1 < j) ∧ wr.heap[wb]? = some (rwO (laO o) 81) ∧ Same (fun k => k = wb) W2 wr) (fun _ s18 _ => n - (intOf s18).toNat)
  case atStart => exact ⟨0, none, rfl, Nat.zero_le _, rfl, (fun x hx => by cases hx), B2.out, Same.refl _ _⟩
  case round =>
    obtain ⟨j, o, rfl, hj, rfl, ho, hb, sj⟩ := hrel
    rename World => WL
    have SJ : Hid (Same (fun k => k = wb) W2 WL) := sj
    have KJ : Hid (Kept w WL) := K2.out.trans sj (fun k hk e => by have := HWB.out; omega)
    have HB : Hid (WL.heap[wb]? = some (rwO (laO o) 81)) := hb
    have HO : Hid (∀ x, o = some x → l[x.1]? = some x.2 ∧ x.1 < j) := ho
    clear sj hb ho
    by_cases hlt : j < n
    case neg =>
      obtain rfl : n = j := by omega
      have d1 : decide ((n : Int) < (n : Int)) = false := decide_eq_false (by omega)
      go_wp2_with fail
      go_ret
      exact ⟨rfl, KJ.out⟩
    have d1 : decide ((j : Int) < (n : Int)) = true := decide_eq_true (by omega)
    have hlt2 : (j : Int) < (n : Int) := by omega
    have hws : IntKind.i64.wrap ((j : Int) + 1) = (j : Int) + 1 := by rw [IntKind.wrap_i64] <;> omega
    obtain ⟨r, hr⟩ : ∃ r, l[j]? = some r := ⟨_, List.getElem?_eq_getElem (by rw [← show n = _ from EN.out]; exact hlt)⟩
    obtain ⟨lb, lo, ea, hlb, q0, q1, q2, q3, q4, q5, q6⟩ := (HR.out.rows.on KJ.out) j r hr
    have HRJ : Hid (l[j]? = some r) := hr
    subst ea
    have NW : Hid _ := fun W (k : Kept WL W) => take17 (r := r) ((k.block _ (lt_of_heap HB.out) (fun e => e)).trans HB.out)
    have FIN : Hid (∀ (WX : World) (o' : Option (Nat × Rw.RwM)), (o' = some (j, r) ∧ codW (laO o) r = 0 ∨ o' = o ∧ codW (laO o) r ≠ 0) → WX.heap[wb]? = some (rwO (nxW (laO o) r) 81) → WX.heap[wb]? = some (rwO (laO o') 81) ∧ ∀ x, o' = some x → l[x.1]? = some x.2 ∧ x.1 < j + 1) := fun WX o' h hx => by
      rcases h with ⟨rfl, h0⟩ | ⟨rfl, h0⟩
      · refine ⟨?_, fun x hx => by cases hx; exact ⟨HRJ.out, Nat.lt_succ_self _⟩⟩
        unfold nxW at hx
        rw [if_pos h0] at hx
        exact hx
      · refine ⟨?_, fun x hx => ⟨(HO.out x hx).1, Nat.lt_succ_of_lt (HO.out x hx).2⟩⟩
        unfold nxW at hx
        rw [if_neg h0] at hx
        exact hx
    clear hr
    go_upto_region 10 with fail
    have GB : Hid (_ = some (rwO r 42)) := heap_new WL (rwO r 42)
    have KG : Hid (Kept WL (WL.alloc (rwO r 42))) := (Same.refl _ _).alloc _
    have HGW : Hid (¬ WL.heap.size = wb) := by have := lt_of_heap HB.out; show ¬ WL.heap.size = wb; omega
    have TK : Hid _ := NW.out _ KG.out
    generalize WL.alloc (rwO r 42) = W3 at *
    generalize hgg : WL.heap.size = g at *
    clear q0 q1 q2 q3 q4 q5 q6 hlb NW hgg
    obtain ⟨g0, g1, g2, g3, g4, g5, g6⟩ := row7 GB.out
    have hgb := lt_of_heap GB.out
    obtain ⟨rkind, rtime, rseq, rindex, rfrm, rtil, rbody⟩ := r
    unfold Rw.rowV at TK
    simp only at TK g0 g1 g2 g3 g4 g5 g6
    go_wp2_with fail
    refine Calls.mono TK.out ?_
    rintro e W4 ⟨v4, rfl, o4, b4, s4⟩
    obtain ⟨av, mv, cv, ev⟩ : ∃ a m c, v4 = .slice a m c := by
      obtain ⟨a, c, ev, -⟩ := row_shape o4
      exact ⟨_, _, _, ev⟩
    subst ev
    have K4 : Hid (Kept w W4) := (KJ.out.trans' KG.out).trans s4 (fun k hk e => by have := HWB.out; omega)
    have S4 : Hid (Same (fun k => k = wb) W2 W4) := (SJ.out.trans' (Kept.to KG.out _)).trans' s4
    have GB4 : Hid (W4.heap[g]? = some (rwO ⟨rkind, rtime, rseq, rindex, rfrm, rtil, rbody⟩ 42)) := (s4.block _ (lt_of_heap GB.out) HGW.out).trans GB.out
    have B4 : Hid (W4.heap[wb]? = some (rwO (nxW (laO o) ⟨rkind, rtime, rseq, rindex, rfrm, rtil, rbody⟩) 81)) := b4
    have O4 : Hid (OwnL W3.heap.size W4 (.slice av mv cv) (lisW (laO o) ⟨rkind, rtime, rseq, rindex, rfrm, rtil, rbody⟩)) := o4
    have PL : Hid (∀ W, _) := fun W => plain_f rkind rtime rseq rindex rfrm rtil rbody W
    have RV : Hid (∀ W, _) := fun W => rvalid_f rkind rtime rseq rindex rfrm rtil rbody W
    clear g0 g1 g2 g3 g4 g5 g6 hgb o4 b4 s4 TK
    have hgb := lt_of_heap GB4.out
    obtain ⟨g0, g1, g2, g3, g4, g5, g6⟩ := row7 GB4.out
    generalize hcw : codW (laO o) ⟨rkind, rtime, rseq, rindex, rfrm, rtil, rbody⟩ = cw at *
    obtain ⟨br, hbr⟩ : ∃ br, br = decide (Rw.rightR ⟨rkind, rtime, rseq, rindex, rfrm, rtil, rbody⟩) := ⟨_, rfl⟩
    rw [← hbr] at RV
    have HBR : Hid (br = decide (Rw.rightR ⟨rkind, rtime, rseq, rindex, rfrm, rtil, rbody⟩)) := hbr
    have HCW : Hid (codW (laO o) ⟨rkind, rtime, rseq, rindex, rfrm, rtil, rbody⟩ = cw) := hcw
    clear hcw hbr
    have WR : Hid (br = false → cw = 90 ∧ mv = 0) := fun e => by
      have h0 : codW (laO o) ⟨rkind, rtime, rseq, rindex, rfrm, rtil, rbody⟩ = 90 := cod_wrong (of_decide_eq_false (by rw [← show br = _ from HBR.out]; exact e))
      exact ⟨HCW.out.symm.trans h0, nil_of O4.out (by rw [h0]; decide)⟩
    have WK : Hid (¬ rkind = 3 → cw = 90 ∧ mv = 0) := fun e => by
      have h0 : codW (laO o) ⟨rkind, rtime, rseq, rindex, rfrm, rtil, rbody⟩ = 90 := cod_kind e
      exact ⟨HCW.out.symm.trans h0, nil_of O4.out (by rw [h0]; decide)⟩
    have RR : Hid (br = true → Rw.rightR ⟨rkind, rtime, rseq, rindex, rfrm, rtil, rbody⟩) := fun e => of_decide_eq_true (by rw [← show br = _ from HBR.out]; exact e)
    clear HBR
    cases o with
    | none =>
      simp only [atO]
      have dm : decide ((0 : Int) ≤ -1) = false := rfl
      go_upto_region 12 with fail
      go_cut [41] (fun s41 wx => s41 = .bool false ∧ Kept W4 wx)
      case first =>
        go_quiet (fail)
        go_wp2_with fail
        go_meet
        exact ⟨rfl, (by (repeat (first | assumption | exact Same.refl _ _ | apply Same.alloc | apply Same.drew | apply Same.drewN)); done)⟩
      case rest =>
        obtain ⟨rfl, kS⟩ := hcut
        have KS : Hid (Kept W4 wc) := kS
        have GBS : Hid (wc.heap[g]? = some (rwO ⟨rkind, rtime, rseq, rindex, rfrm, rtil, rbody⟩ 42)) := (kS.block _ (lt_of_heap GB4.out) (fun e => e)).trans GB4.out
        clear g0 g1 g2 g3 g4 g5 g6 hgb kS
        have hgb := lt_of_heap GBS.out
        obtain ⟨g0, g1, g2, g3, g4, g5, g6⟩ := row7 GBS.out
        go_wp2_with fail
        refine Calls.mono (PL.out _) ?_
        rintro e W5 ⟨rfl, k5⟩
        have K5 : Hid (Kept wc W5) := k5
        clear k5
        go_wp2_with fail
        refine Calls.mono (RV.out _) ?_
        rintro e W6 ⟨rfl, k6⟩
        have K6 : Hid (Kept wc W6) := K5.out.trans' k6
        have GB6 : Hid (W6.heap[g]? = some (rwO ⟨rkind, rtime, rseq, rindex, rfrm, rtil, rbody⟩ 42)) := (K6.out.block _ (lt_of_heap GBS.out) (fun e => e)).trans GBS.out
        have hg6 := lt_of_heap GB6.out
        obtain ⟨h0, h1, h2, h3, h4, h5, h6⟩ := row7 GB6.out
        clear k6
        cases br with
        | false =>
          obtain ⟨rfl, rfl⟩ := WR.out rfl
          go_wp2_with fail
          go_roundw
          case rel =>
            have hB6 : W6.heap[wb]? = some (rwO (nxW (laO none) ⟨rkind, rtime, rseq, rindex, rfrm, rtil, rbody⟩) 81) := (((KS.out).trans' K6.out).block _ (lt_of_heap B4.out) (fun e => e)).trans B4.out
            have hf := FIN.out W6 none (.inr ⟨rfl, by decide⟩) hB6
            exact ⟨j + 1, none, by simp, hlt, rfl, hf.2, hf.1, (S4.out.trans' (Kept.to (KS.out.trans' K6.out) _))⟩
          case measure => simp only [intOf]; omega
        | true =>
          by_cases hk3 : rkind = 3
          case neg =>
            obtain ⟨rfl, rfl⟩ := WK.out hk3
            have d3 : (rkind != 3) = true := by simpa using hk3
            go_wp2_with fail
            go_roundw
            case rel =>
              have hB6 : W6.heap[wb]? = some (rwO (nxW (laO none) ⟨rkind, rtime, rseq, rindex, rfrm, rtil, rbody⟩) 81) := (((KS.out).trans' K6.out).block _ (lt_of_heap B4.out) (fun e => e)).trans B4.out
              have hf := FIN.out W6 none (.inr ⟨rfl, by decide⟩) hB6
              exact ⟨j + 1, none, by simp, hlt, rfl, hf.2, hf.1, (S4.out.trans' (Kept.to (KS.out.trans' K6.out) _))⟩
            case measure => simp only [intOf]; omega
          have HRR : Hid (Rw.rightR ⟨rkind, rtime, rseq, rindex, rfrm, rtil, rbody⟩) := RR.out rfl
          subst hk3
          have hcw : cw = 0 := HCW.out.symm.trans (cod_first HRR.out rfl)
          subst hcw
          have OV : Hid (OwnL W3.heap.size W6 (.slice av mv cv) []) := by
            have h9 := row_kept O4.out (KS.out.trans' K6.out) (fun _ _ e => e)
            have e9 : lisW (laO none) ⟨3, rtime, rseq, rindex, rfrm, rtil, rbody⟩ = [] := by unfold lisW; rw [if_pos HCW.out]; exact fol_first HRR.out
            rw [e9] at h9
            exact h9
          obtain rfl : mv = 0 := own_len OV.out
          go_wp2_with fail
          refine Calls.mono (same16 W6 av none 0 cv 0 [] OV.out (OwnL.nil 0 _) rfl (by omega)) ?_
          rintro e W7 ⟨rfl, k7⟩
          have K7 : Hid (Kept W6 W7) := k7
          clear k7
          go_wp2_with fail
          go_roundw
          case rel =>
            have hB7 : W7.heap[wb]? = some (rwO (nxW (laO none) ⟨3, rtime, rseq, rindex, rfrm, rtil, rbody⟩) 81) := ((KS.out.trans' (K6.out.trans' K7.out)).block _ (lt_of_heap B4.out) (fun e => e)).trans B4.out
            have hf := FIN.out W7 (some (j, ⟨3, rtime, rseq, rindex, rfrm, rtil, rbody⟩)) (.inl ⟨rfl, trivial⟩) hB7
            exact ⟨j + 1, some (j, ⟨3, rtime, rseq, rindex, rfrm, rtil, rbody⟩), by simp, hlt, rfl, hf.2, hf.1, (S4.out.trans' (Kept.to (KS.out.trans' (K6.out.trans' K7.out)) _))⟩
          case measure => simp only [intOf]; omega
    | some x =>
      obtain ⟨k, p⟩ := x
      obtain ⟨hp, hkj⟩ := HO.out (k, p) rfl
      simp only at hp hkj
      obtain ⟨lb1, lo1, ea, hlb, q0, q1, q2, q3, q4, q5, q6⟩ := (HR.out.rows.on K4.out) k p hp
      cases ea
      obtain ⟨pkind, ptime, pseq, pindex, pfrm, ptil, pbody⟩ := p
      simp only at q0 q1 q2 q3 q4 q5 q6
      simp only [atO]
      have dm : decide ((0 : Int) ≤ (k : Int)) = true := decide_eq_true (by omega)
      have dm2 : (0 : Int) ≤ (k : Int) := by omega
      have hkn : k < n := by omega
      have hkn2 : (k : Int) < (n : Int) := by omega
      have HBX : Hid (∀ W', Kept W4 W' → Kept W4 W' ∧ (W'.cell? ⟨lb, lo + k * 7, none⟩ = some (.int .i64 pkind) ∧ W'.cell? ⟨lb, lo + k * 7 + 1, none⟩ = some (.int .i64 ptime) ∧ W'.cell? ⟨lb, lo + k * 7 + 2, none⟩ = some (.int .i64 pseq) ∧ W'.cell? ⟨lb, lo + k * 7 + 3, none⟩ = some (.int .i64 pindex) ∧ W'.cell? ⟨lb, lo + k * 7 + 4, none⟩ = some (.int .i64 pfrm) ∧ W'.cell? ⟨lb, lo + k * 7 + 5, none⟩ = some (.int .i64 ptil) ∧ W'.cell? ⟨lb, lo + k * 7 + 6, none⟩ = some (.string pbody)) ∧ (W'.cell? ⟨g, 0, none⟩ = some (.int .i64 rkind) ∧ W'.cell? ⟨g, 1, none⟩ = some (.int .i64 rtime) ∧ W'.cell? ⟨g, 2, none⟩ = some (.int .i64 rseq) ∧ W'.cell? ⟨g, 3, none⟩ = some (.int .i64 rindex) ∧ W'.cell? ⟨g, 4, none⟩ = some (.int .i64 rfrm) ∧ W'.cell? ⟨g, 5, none⟩ = some (.int .i64 rtil) ∧ W'.cell? ⟨g, 6, none⟩ = some (.string rbody))) := fun W' k' => ⟨k', by
        obtain ⟨lb1, lo1, ea, hlb, q0, q1, q2, q3, q4, q5, q6⟩ := (HR.out.rows.on (K4.out.trans' k')) k _ hp
        cases ea
        exact ⟨q0, q1, q2, q3, q4, q5, q6⟩, row7 ((k'.block _ (lt_of_heap GB4.out) (fun e => e)).trans GB4.out)⟩
      have PL4 : Hid (∀ (k t s i f u : Int) (y : ByteArray) (W : World), Kept W4 W → Calls _ _ _ _ fun e w' => _ ∧ Kept W4 w') := fun k t s i f u y W (kw : Kept W4 W) => Calls.mono (plain_f k t s i f u y W) (fun e w' hh => ⟨hh.1, kw.trans' hh.2⟩)
      obtain ⟨bb, hbb⟩ : ∃ bb, bb = Rw.bef 2 ⟨pkind, ptime, pseq, pindex, pfrm, ptil, pbody⟩ ⟨rkind, rtime, rseq, rindex, rfrm, rtil, rbody⟩ := ⟨_, rfl⟩
      have HBB : Hid (bb = Rw.bef 2 ⟨pkind, ptime, pseq, pindex, pfrm, ptil, pbody⟩ ⟨rkind, rtime, rseq, rindex, rfrm, rtil, rbody⟩) := hbb
      have BF4 : Hid (∀ W, Kept W4 W → Calls _ _ _ _ fun e w' => e = .returned (.bool bb) ∧ Kept W4 w') := fun W (kw : Kept W4 W) => Calls.mono (before_f 2 pkind ptime pseq pindex pfrm ptil pbody rkind rtime rseq rindex rfrm rtil rbody W) (fun e w' hh => ⟨by rw [HBB.out]; exact hh.1, kw.trans' hh.2⟩)
      clear hbb hp
      go_upto_region 12 with fail
      go_cut [41] (fun s41 wx => s41 = .bool (!bb) ∧ Kept W4 wx)
      case first =>
        go_region_held3 (fun w' => Kept W4 w' ∧ (w'.cell? ⟨lb, lo + k * 7, none⟩ = some (.int .i64 pkind) ∧ w'.cell? ⟨lb, lo + k * 7 + 1, none⟩ = some (.int .i64 ptime) ∧ w'.cell? ⟨lb, lo + k * 7 + 2, none⟩ = some (.int .i64 pseq) ∧ w'.cell? ⟨lb, lo + k * 7 + 3, none⟩ = some (.int .i64 pindex) ∧ w'.cell? ⟨lb, lo + k * 7 + 4, none⟩ = some (.int .i64 pfrm) ∧ w'.cell? ⟨lb, lo + k * 7 + 5, none⟩ = some (.int .i64 ptil) ∧ w'.cell? ⟨lb, lo + k * 7 + 6, none⟩ = some (.string pbody)) ∧ (w'.cell? ⟨g, 0, none⟩ = some (.int .i64 rkind) ∧ w'.cell? ⟨g, 1, none⟩ = some (.int .i64 rtime) ∧ w'.cell? ⟨g, 2, none⟩ = some (.int .i64 rseq) ∧ w'.cell? ⟨g, 3, none⟩ = some (.int .i64 rindex) ∧ w'.cell? ⟨g, 4, none⟩ = some (.int .i64 rfrm) ∧ w'.cell? ⟨g, 5, none⟩ = some (.int .i64 rtil) ∧ w'.cell? ⟨g, 6, none⟩ = some (.string rbody)))
          (exact HBX.out _ (by (repeat (first | assumption | exact Same.refl _ _ | apply Same.alloc | apply Same.drew | apply Same.drewN)); done))
          (first | (go_at_call 16; refine Calls.mono (PL4.out _ _ _ _ _ _ _ _ (by (repeat (first | assumption | exact Same.refl _ _ | apply Same.alloc | apply Same.drew | apply Same.drewN)); done)) ?_; rintro r wq ⟨rfl, kx⟩) | (go_at_call 21; refine Calls.mono (BF4.out _ (by (repeat (first | assumption | exact Same.refl _ _ | apply Same.alloc | apply Same.drew | apply Same.drewN)); done)) ?_; rintro r wq ⟨rfl, kx9⟩))
        all_goals
          go_wp2_with fail
          go_meet
          exact ⟨rfl, (by (repeat (first | assumption | exact Same.refl _ _ | apply Same.alloc | apply Same.drew | apply Same.drewN)); done)⟩
      case rest =>
        obtain ⟨rfl, kS⟩ := hcut
        have KS : Hid (Kept W4 wc) := kS
        have GBS : Hid (wc.heap[g]? = some (rwO ⟨rkind, rtime, rseq, rindex, rfrm, rtil, rbody⟩ 42)) := (kS.block _ (lt_of_heap GB4.out) (fun e => e)).trans GB4.out
        clear g0 g1 g2 g3 g4 g5 g6 hgb kS BF4 PL4
        have hgb := lt_of_heap GBS.out
        obtain ⟨g0, g1, g2, g3, g4, g5, g6⟩ := row7 GBS.out
        cases bb with
        | false =>
          rw [show (!false) = true from rfl]
          go_wp2_with fail
          refine Calls.mono (PL.out _) ?_
          rintro e W5 ⟨rfl, k5⟩
          have K5 : Hid (Kept wc W5) := k5
          clear k5
          go_wp2_with fail
          refine Calls.mono (RV.out _) ?_
          rintro e W6 ⟨rfl, k6⟩
          have K6 : Hid (Kept wc W6) := K5.out.trans' k6
          have GB6 : Hid (W6.heap[g]? = some (rwO ⟨rkind, rtime, rseq, rindex, rfrm, rtil, rbody⟩ 42)) := (K6.out.block _ (lt_of_heap GBS.out) (fun e => e)).trans GBS.out
          have hg6 := lt_of_heap GB6.out
          obtain ⟨h0, h1, h2, h3, h4, h5, h6⟩ := row7 GB6.out
          clear k6
          cases br with
          | false =>
            obtain ⟨rfl, rfl⟩ := WR.out rfl
            go_wp2_with fail
            go_roundw
            case rel =>
              have hB6 : W6.heap[wb]? = some (rwO (nxW (laO (some (k, ⟨pkind, ptime, pseq, pindex, pfrm, ptil, pbody⟩))) ⟨rkind, rtime, rseq, rindex, rfrm, rtil, rbody⟩) 81) := (((KS.out).trans' K6.out).block _ (lt_of_heap B4.out) (fun e => e)).trans B4.out
              have hf := FIN.out W6 (some (k, ⟨pkind, ptime, pseq, pindex, pfrm, ptil, pbody⟩)) (.inr ⟨rfl, by decide⟩) hB6
              exact ⟨j + 1, (some (k, ⟨pkind, ptime, pseq, pindex, pfrm, ptil, pbody⟩)), by simp, hlt, rfl, hf.2, hf.1, (S4.out.trans' (Kept.to (KS.out.trans' K6.out) _))⟩
            case measure => simp only [intOf]; omega
          | true =>
            by_cases hk3 : rkind = 3
            case neg =>
              obtain ⟨rfl, rfl⟩ := WK.out hk3
              have d3 : (rkind != 3) = true := by simpa using hk3
              go_wp2_with fail
              go_roundw
              case rel =>
                have hB6 : W6.heap[wb]? = some (rwO (nxW (laO (some (k, ⟨pkind, ptime, pseq, pindex, pfrm, ptil, pbody⟩))) ⟨rkind, rtime, rseq, rindex, rfrm, rtil, rbody⟩) 81) := (((KS.out).trans' K6.out).block _ (lt_of_heap B4.out) (fun e => e)).trans B4.out
                have hf := FIN.out W6 (some (k, ⟨pkind, ptime, pseq, pindex, pfrm, ptil, pbody⟩)) (.inr ⟨rfl, by decide⟩) hB6
                exact ⟨j + 1, (some (k, ⟨pkind, ptime, pseq, pindex, pfrm, ptil, pbody⟩)), by simp, hlt, rfl, hf.2, hf.1, (S4.out.trans' (Kept.to (KS.out.trans' K6.out) _))⟩
              case measure => simp only [intOf]; omega
            have HRR : Hid (Rw.rightR ⟨rkind, rtime, rseq, rindex, rfrm, rtil, rbody⟩) := RR.out rfl
            subst hk3
            have hcw : cw = 161 := HCW.out.symm.trans (by
              rw [show laO (some (k, ⟨pkind, ptime, pseq, pindex, pfrm, ptil, pbody⟩)) = lsR ⟨pkind, ptime, pseq, pindex, pfrm, ptil, pbody⟩ from rfl, cod_right HRR.out rfl, if_neg (by rw [← show false = _ from HBB.out]; decide)])
            subst hcw
            obtain rfl : mv = 0 := nil_of O4.out (by rw [HCW.out]; decide)
            go_wp2_with fail
            go_roundw
            case rel =>
              have hB6 : W6.heap[wb]? = some (rwO (nxW (laO (some (k, ⟨pkind, ptime, pseq, pindex, pfrm, ptil, pbody⟩))) ⟨3, rtime, rseq, rindex, rfrm, rtil, rbody⟩) 81) := (((KS.out).trans' K6.out).block _ (lt_of_heap B4.out) (fun e => e)).trans B4.out
              have hf := FIN.out W6 (some (k, ⟨pkind, ptime, pseq, pindex, pfrm, ptil, pbody⟩)) (.inr ⟨rfl, by decide⟩) hB6
              exact ⟨j + 1, (some (k, ⟨pkind, ptime, pseq, pindex, pfrm, ptil, pbody⟩)), by simp, hlt, rfl, hf.2, hf.1, (S4.out.trans' (Kept.to (KS.out.trans' K6.out) _))⟩
            case measure => simp only [intOf]; omega
        | true =>
          rw [show (!true) = false from rfl]
          go_wp2_with fail
          refine Calls.mono (PL.out _) ?_
          rintro e W5 ⟨rfl, k5⟩
          have K5 : Hid (Kept wc W5) := k5
          clear k5
          go_wp2_with fail
          refine Calls.mono (RV.out _) ?_
          rintro e W6 ⟨rfl, k6⟩
          have K6 : Hid (Kept wc W6) := K5.out.trans' k6
          have GB6 : Hid (W6.heap[g]? = some (rwO ⟨rkind, rtime, rseq, rindex, rfrm, rtil, rbody⟩ 42)) := (K6.out.block _ (lt_of_heap GBS.out) (fun e => e)).trans GBS.out
          have hg6 := lt_of_heap GB6.out
          obtain ⟨h0, h1, h2, h3, h4, h5, h6⟩ := row7 GB6.out
          clear k6
          cases br with
          | false =>
            obtain ⟨rfl, rfl⟩ := WR.out rfl
            go_wp2_with fail
            go_roundw
            case rel =>
              have hB6 : W6.heap[wb]? = some (rwO (nxW (laO (some (k, ⟨pkind, ptime, pseq, pindex, pfrm, ptil, pbody⟩))) ⟨rkind, rtime, rseq, rindex, rfrm, rtil, rbody⟩) 81) := (((KS.out).trans' K6.out).block _ (lt_of_heap B4.out) (fun e => e)).trans B4.out
              have hf := FIN.out W6 (some (k, ⟨pkind, ptime, pseq, pindex, pfrm, ptil, pbody⟩)) (.inr ⟨rfl, by decide⟩) hB6
              exact ⟨j + 1, (some (k, ⟨pkind, ptime, pseq, pindex, pfrm, ptil, pbody⟩)), by simp, hlt, rfl, hf.2, hf.1, (S4.out.trans' (Kept.to (KS.out.trans' K6.out) _))⟩
            case measure => simp only [intOf]; omega
          | true =>
            by_cases hk3 : rkind = 3
            case neg =>
              obtain ⟨rfl, rfl⟩ := WK.out hk3
              have d3 : (rkind != 3) = true := by simpa using hk3
              go_wp2_with fail
              go_roundw
              case rel =>
                have hB6 : W6.heap[wb]? = some (rwO (nxW (laO (some (k, ⟨pkind, ptime, pseq, pindex, pfrm, ptil, pbody⟩))) ⟨rkind, rtime, rseq, rindex, rfrm, rtil, rbody⟩) 81) := (((KS.out).trans' K6.out).block _ (lt_of_heap B4.out) (fun e => e)).trans B4.out
                have hf := FIN.out W6 (some (k, ⟨pkind, ptime, pseq, pindex, pfrm, ptil, pbody⟩)) (.inr ⟨rfl, by decide⟩) hB6
                exact ⟨j + 1, (some (k, ⟨pkind, ptime, pseq, pindex, pfrm, ptil, pbody⟩)), by simp, hlt, rfl, hf.2, hf.1, (S4.out.trans' (Kept.to (KS.out.trans' K6.out) _))⟩
              case measure => simp only [intOf]; omega
            have HRR : Hid (Rw.rightR ⟨rkind, rtime, rseq, rindex, rfrm, rtil, rbody⟩) := RR.out rfl
            subst hk3
            have hcw : cw = 0 := HCW.out.symm.trans (by
              rw [show laO (some (k, ⟨pkind, ptime, pseq, pindex, pfrm, ptil, pbody⟩)) = lsR ⟨pkind, ptime, pseq, pindex, pfrm, ptil, pbody⟩ from rfl, cod_right HRR.out rfl, if_pos (by rw [← show true = _ from HBB.out])])
            subst hcw
            have OV : Hid (OwnL W3.heap.size W6 (.slice av mv cv) (fol ⟨pkind, ptime, pseq, pindex, pfrm, ptil, pbody⟩ ⟨3, rtime, rseq, rindex, rfrm, rtil, rbody⟩)) := by
              have h9 := row_kept O4.out (KS.out.trans' K6.out) (fun _ _ e => e)
              have e9 : lisW (laO (some (k, ⟨pkind, ptime, pseq, pindex, pfrm, ptil, pbody⟩))) ⟨3, rtime, rseq, rindex, rfrm, rtil, rbody⟩ = fol ⟨pkind, ptime, pseq, pindex, pfrm, ptil, pbody⟩ ⟨3, rtime, rseq, rindex, rfrm, rtil, rbody⟩ := by unfold lisW; rw [if_pos HCW.out]; exact fol_ls _ _
              rw [e9] at h9
              exact h9
            have HBX6 : Hid (∀ W', Kept W6 W' → Kept W6 W' ∧ (W'.cell? ⟨lb, lo + k * 7, none⟩ = some (.int .i64 pkind) ∧ W'.cell? ⟨lb, lo + k * 7 + 1, none⟩ = some (.int .i64 ptime) ∧ W'.cell? ⟨lb, lo + k * 7 + 2, none⟩ = some (.int .i64 pseq) ∧ W'.cell? ⟨lb, lo + k * 7 + 3, none⟩ = some (.int .i64 pindex) ∧ W'.cell? ⟨lb, lo + k * 7 + 4, none⟩ = some (.int .i64 pfrm) ∧ W'.cell? ⟨lb, lo + k * 7 + 5, none⟩ = some (.int .i64 ptil) ∧ W'.cell? ⟨lb, lo + k * 7 + 6, none⟩ = some (.string pbody)) ∧ (W'.cell? ⟨g, 0, none⟩ = some (.int .i64 3) ∧ W'.cell? ⟨g, 1, none⟩ = some (.int .i64 rtime) ∧ W'.cell? ⟨g, 2, none⟩ = some (.int .i64 rseq) ∧ W'.cell? ⟨g, 3, none⟩ = some (.int .i64 rindex) ∧ W'.cell? ⟨g, 4, none⟩ = some (.int .i64 rfrm) ∧ W'.cell? ⟨g, 5, none⟩ = some (.int .i64 rtil) ∧ W'.cell? ⟨g, 6, none⟩ = some (.string rbody))) := fun W' k' => ⟨k', (HBX.out W' ((KS.out.trans' K6.out).trans' k')).2⟩
            have PL6 : Hid (∀ (k t s i f u : Int) (y : ByteArray) (W : World), Kept W6 W → Calls _ _ _ _ fun e w' => _ ∧ Kept W6 w') := fun k t s i f u y W (kw : Kept W6 W) => Calls.mono (plain_f k t s i f u y W) (fun e w' hh => ⟨hh.1, kw.trans' hh.2⟩)
            have PR6 : Hid (∀ W, Kept W6 W → Calls _ _ _ _ fun e w' => ∃ a m c b, e = .returned (.tuple #[.slice a m c, .bool b]) ∧ OwnL W6.heap.size w' (.slice a m c) (fol ⟨pkind, ptime, pseq, pindex, pfrm, ptil, pbody⟩ ⟨3, rtime, rseq, rindex, rfrm, rtil, rbody⟩) ∧ Kept W6 w') := fun W (kw : Kept W6 W) => Calls.mono (pair_f pkind ptime pseq pindex pfrm ptil pbody 3 rtime rseq rindex rfrm rtil rbody W) (fun e w' hh => by
              obtain ⟨v, b, rfl, o, kx⟩ := hh
              obtain ⟨a, c, ev, -⟩ := row_shape o
              subst ev
              exact ⟨_, _, _, b, rfl, row_base o kw.size, kw.trans' kx⟩)
            have hlen := fol_len ⟨pkind, ptime, pseq, pindex, pfrm, ptil, pbody⟩ ⟨3, rtime, rseq, rindex, rfrm, rtil, rbody⟩
            have HLEN : Hid ((fol ⟨pkind, ptime, pseq, pindex, pfrm, ptil, pbody⟩ ⟨3, rtime, rseq, rindex, rfrm, rtil, rbody⟩).length ≤ 1) := hlen
            clear hlen
            generalize fol ⟨pkind, ptime, pseq, pindex, pfrm, ptil, pbody⟩ ⟨3, rtime, rseq, rindex, rfrm, rtil, rbody⟩ = FL at *
            have hlb6 : lb < W6.heap.size := Nat.lt_of_lt_of_le hlb (KS.out.trans' K6.out).size
            obtain ⟨-, ⟨z0, z1, z2, z3, z4, z5, z6⟩, -⟩ := HBX6.out W6 (Same.refl _ _)
            clear q0 q1 q2 q3 q4 q5 q6 g0 g1 g2 g3 g4 g5 g6 hgb hlb
            go_upto_region 23 with fail
            go_cut [10] (fun s10 wx => ∃ a m c, s10 = .slice a m c ∧ OwnL W6.heap.size wx (.slice a m c) FL ∧ Kept W6 wx)
            case first =>
              go_region_held3 (fun w' => Kept W6 w' ∧ (w'.cell? ⟨lb, lo + k * 7, none⟩ = some (.int .i64 pkind) ∧ w'.cell? ⟨lb, lo + k * 7 + 1, none⟩ = some (.int .i64 ptime) ∧ w'.cell? ⟨lb, lo + k * 7 + 2, none⟩ = some (.int .i64 pseq) ∧ w'.cell? ⟨lb, lo + k * 7 + 3, none⟩ = some (.int .i64 pindex) ∧ w'.cell? ⟨lb, lo + k * 7 + 4, none⟩ = some (.int .i64 pfrm) ∧ w'.cell? ⟨lb, lo + k * 7 + 5, none⟩ = some (.int .i64 ptil) ∧ w'.cell? ⟨lb, lo + k * 7 + 6, none⟩ = some (.string pbody)) ∧ (w'.cell? ⟨g, 0, none⟩ = some (.int .i64 3) ∧ w'.cell? ⟨g, 1, none⟩ = some (.int .i64 rtime) ∧ w'.cell? ⟨g, 2, none⟩ = some (.int .i64 rseq) ∧ w'.cell? ⟨g, 3, none⟩ = some (.int .i64 rindex) ∧ w'.cell? ⟨g, 4, none⟩ = some (.int .i64 rfrm) ∧ w'.cell? ⟨g, 5, none⟩ = some (.int .i64 rtil) ∧ w'.cell? ⟨g, 6, none⟩ = some (.string rbody)))
                (exact HBX6.out _ (by (repeat (first | assumption | exact Same.refl _ _ | apply Same.alloc | apply Same.drew | apply Same.drewN)); done))
                (first | (go_at_call 16; refine Calls.mono (PL6.out _ _ _ _ _ _ _ _ (by (repeat (first | assumption | exact Same.refl _ _ | apply Same.alloc | apply Same.drew | apply Same.drewN)); done)) ?_; rintro r wq ⟨rfl, kx⟩) | (go_at_call 23; refine Calls.mono (PR6.out _ (by (repeat (first | assumption | exact Same.refl _ _ | apply Same.alloc | apply Same.drew | apply Same.drewN)); done)) ?_; rintro r wq ⟨a9, m9, c9, b9, rfl, o9, kx9⟩; have O9 : Hid _ := o9; clear o9))
              all_goals
                go_wp2_with fail
                go_meet
                exact ⟨_, _, _, rfl, O9.out, (by (repeat (first | assumption | exact Same.refl _ _ | apply Same.alloc | apply Same.drew | apply Same.drewN)); done)⟩
            case rest =>
              rename World => W7
              obtain ⟨a10, m10, c10, rfl, o10, k10⟩ := hcut
              have O10 : Hid (OwnL W6.heap.size W7 (.slice a10 m10 c10) FL) := o10
              have OV7 : Hid (OwnL W3.heap.size W7 (.slice av mv cv) FL) := row_kept OV.out k10 (fun _ _ e => e)
              have K67 : Hid (Kept W6 W7) := k10
              obtain rfl : m10 = mv := (own_len o10).trans (own_len OV.out).symm
              clear o10 k10
              go_wp2_with fail
              refine Calls.mono (same16 W7 av a10 m10 cv c10 FL OV7.out O10.out (own_len OV.out) (by have h1 := HLEN.out; have h2 := own_len OV.out; omega)) ?_
              rintro e W8 ⟨rfl, k7⟩
              have K7 : Hid (Kept W6 W8) := K67.out.trans' k7
              clear k7
              go_wp2_with fail
              go_roundw
              case rel =>
                have hB7 : W8.heap[wb]? = some (rwO (nxW (laO (some (k, ⟨pkind, ptime, pseq, pindex, pfrm, ptil, pbody⟩))) ⟨3, rtime, rseq, rindex, rfrm, rtil, rbody⟩) 81) := ((KS.out.trans' (K6.out.trans' K7.out)).block _ (lt_of_heap B4.out) (fun e => e)).trans B4.out
                have hf := FIN.out W8 (some (j, ⟨3, rtime, rseq, rindex, rfrm, rtil, rbody⟩)) (.inl ⟨rfl, trivial⟩) hB7
                exact ⟨j + 1, some (j, ⟨3, rtime, rseq, rindex, rfrm, rtil, rbody⟩), by simp, hlt, rfl, hf.2, hf.1, (S4.out.trans' (Kept.to (KS.out.trans' (K6.out.trans' K7.out)) _))⟩
              case measure => simp only [intOf]; omega
end Go.Proofs.Ytbjmdpfoeeadeaa.Sw
