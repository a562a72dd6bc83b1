/- What is proved: the code's ParseLog; conditions: the text's length, and that the library's variable of the greatest length holds a number. -/
import Derived.Test.YtlldgibpajbabaaDoorNoCk
import Derived.Test.YtlldgibpajbabaaDoorNoPr
import Derived.Test.YtlldgibpajbabaaDoorNoCu
namespace Go.Proofs.YtlldgibpajbabaaDoor
open Go.RowKit

abbrev nol (b : UInt8) : Bool := b != 10
/-- A line's answer in a log: its text, whether a line end closes it, how many stand ahead. -/
def plineT (l : List UInt8) (ended : Bool) (n : Nat) : TxM × Int := if n = 4096 then (tz0, 71) else if ended = false then (tz0, 210) else parseT l
/-- What ParseLog answers from a place on: the log, the line, the error. -/
def plR : Nat → List TxM → List UInt8 → List TxM × Nat × Int
  | 0, acc, _ => (acc, 0, 0)
  | n + 1, acc, s => if s = [] then (acc, 0, 0) else if acc.length = 4096 then ([], acc.length, 71) else if lead nol s = s.length then ([], acc.length, 210) else if (parseT (s.take (lead nol s))).2 ≠ 0 then ([], acc.length, (parseT (s.take (lead nol s))).2) else plR n (acc ++ [(parseT (s.take (lead nol s))).1]) (s.drop (lead nol s + 1))
def plogP (s : List UInt8) : List TxM × Nat × Int := plR s.length [] s
theorem plR_succ (n : Nat) (acc : List TxM) (s : List UInt8) : plR (n + 1) acc s = if s = [] then (acc, 0, 0) else if acc.length = 4096 then ([], acc.length, 71) else if lead nol s = s.length then ([], acc.length, 210) else if (parseT (s.take (lead nol s))).2 ≠ 0 then ([], acc.length, (parseT (s.take (lead nol s))).2) else plR n (acc ++ [(parseT (s.take (lead nol s))).1]) (s.drop (lead nol s + 1)) := rfl
theorem plR_end {n : Nat} {acc : List TxM} : plR n acc [] = (acc, 0, 0) := by
  cases n with
  | zero => rfl
  | succ n => unfold plR; rw [if_pos rfl]
/-- One line of it, by its line's answer. -/
theorem plR_bad {n : Nat} {acc : List TxM} {s : List UInt8} (hs : s ≠ []) (hn : s.length ≤ n) (h : (plineT (cutb 10 s).1 (cutb 10 s).2.2 acc.length).2 ≠ 0) : plR n acc s = ([], acc.length, (plineT (cutb 10 s).1 (cutb 10 s).2.2 acc.length).2) := by
  cases n with
  | zero => exact absurd (List.eq_nil_of_length_eq_zero (by omega)) hs
  | succ n =>
    rw [plR_succ, if_neg hs]
    unfold plineT cutb at *
    by_cases h1 : acc.length = 4096
    · rw [if_pos h1, if_pos h1]
    · rw [if_neg h1] at h ⊢
      rw [if_neg h1]
      by_cases h2 : lead nol s = s.length
      · rw [if_pos h2]
        rw [if_pos (show lead (fun b => b != 10) s = s.length from h2)]
        rfl
      · rw [if_neg h2]
        rw [if_neg (show ¬ lead (fun b => b != 10) s = s.length from h2)] at h ⊢
        dsimp only at h ⊢
        simp only [Bool.true_eq_false, if_false] at h ⊢
        rw [if_pos h]
theorem plR_good {n : Nat} {acc : List TxM} {s : List UInt8} (hs : s ≠ []) (h : (plineT (cutb 10 s).1 (cutb 10 s).2.2 acc.length).2 = 0) : plR (n + 1) acc s = plR n (acc ++ [(plineT (cutb 10 s).1 (cutb 10 s).2.2 acc.length).1]) (cutb 10 s).2.1 ∧ (cutb 10 s).2.1.length < s.length ∧ acc.length ≠ 4096 ∧ ¬ lead nol s = s.length ∧ (cutb 10 s).1 = s.take (lead nol s) ∧ (cutb 10 s).2.1 = s.drop (lead nol s + 1) := by
  have hl := lead_le nol s
  have h3 : s.length ≠ 0 := fun e => hs (List.eq_nil_of_length_eq_zero e)
  rw [plR_succ, if_neg hs]
  unfold plineT cutb at *
  by_cases h1 : acc.length = 4096
  · rw [if_pos h1] at h
    cases h
  · rw [if_neg h1] at h ⊢
    rw [if_neg h1]
    by_cases h2 : lead nol s = s.length
    · rw [if_pos (show lead (fun b => b != 10) s = s.length from h2)] at h
      cases h
    · rw [if_neg h2]
      rw [if_neg (show ¬ lead (fun b => b != 10) s = s.length from h2)] at h ⊢
      dsimp only at h ⊢
      simp only [Bool.true_eq_false, if_false] at h ⊢
      rw [if_neg (by rw [h]; simp)]
      refine ⟨by first | exact True.intro | rfl, ?_, h1, h2, by first | exact True.intro | rfl, by first | exact True.intro | rfl⟩
      rw [List.length_drop]
      omega
/-- One transaction more behind a list of one's own. -/
theorem lst_more {base : Nat} {w0 W1 : World} {v : Value} {m : List TxR} {r : TxR} (h : Lst base w0 v m) (k1 : Kept w0 W1) (ho : OwnO w0.heap.size W1 r.sl r.t.ops) (hb : (m.length + 1) * 80 ≤ 140737488355328) (hbase : base ≤ w0.heap.size) (ty : TypeId) :
    ∃ v' w', (Builtin.append_ #[33, 33] ty #[v, .slice (some ⟨W1.heap.size + 1, 0, none⟩) 1 1]).run Tryd.prog ((W1.alloc r.obj).alloc r.obj) = .ok v' w' ∧ (∃ a' c', v' = .slice a' (m.length + 1) c') ∧ Lst base w' v' (m ++ [r]) ∧ Same (fun k => base ≤ k) w0 w' := by
  have k2 : Kept w0 (W1.alloc r.obj) := k1.alloc _
  have hsz := k1.size
  obtain ⟨v', w', hr', r1, r2, r3⟩ := app_tx_big r (OwnT.on h.row k2) hb (by rw [World.size_alloc]; omega) ty
  rw [World.size_alloc] at hr'
  obtain ⟨q1, -⟩ := Lst.app (r := r) h k2 (OwnO.on ho ((Same.refl _ W1).alloc _)) hbase r1 r2 r3
  obtain ⟨a', c', e', -⟩ := OwnT.txs r1
  refine ⟨v', w', hr', ⟨a', c', by rw [e', List.length_append]; rfl⟩, q1, ?_⟩
  exact ((Kept.to k2 _).trans' (r2.mono fun k _ e => (h.row.block e).1))
set_option maxRecDepth 100000 in
set_option maxHeartbeats 3200000 in
theorem parseLogLine_any (l : List UInt8) (ended : Bool) (n : Nat) (w : World) (hl : l.length ≤ 140737488355328) : Calls Tryd.prog 27 #[tx l, .bool ended, .int .i64 (n : Int)] w fun e w' => ∃ a c, e = .returned (.tuple #[txV (plineT l ended n).1 (.slice a (plineT l ended n).1.ops.length c), .int .i64 (plineT l ended n).2]) ∧ OwnO w.heap.size w' (.slice a (plineT l ended n).1.ops.length c) (plineT l ended n).1.ops ∧ Kept w w' := by
  have HP : Hid (∀ w, _) := fun w => parse_any l w hl
  have EP : Hid (plineT l ended n = if n = 4096 then (tz0, 71) else if ended = false then (tz0, 210) else parseT l) := rfl
  generalize plineT l ended n = PT at *
  generalize parseT l = R at *
  obtain ⟨t, pc⟩ := R
  dsimp only at HP
  obtain ⟨W0, e0⟩ : ∃ W0, W0 = w.alloc (.cells txz 25 (0, 0)) := ⟨_, rfl⟩
  have B0 : Hid (W0.heap[w.heap.size]? = some (.cells txz 25 (0, 0))) := by rw [e0]; exact heap_new w _
  have K0 : Hid (Kept w W0) := by rw [e0]; exact (Same.refl _ w).alloc _
  unfold txz at e0
  obtain ⟨⟨q0, q1, q2, q3, q4, q5, q6, q7⟩, v0, v1, v2, v3, v4, v5, v6, v7⟩ := tx_obj B0.out
  have lq := lt_of_heap B0.out
  by_cases hn : n = 4096
  · have c1 : ((n : Int) == 4096) = true := by rw [hn]; rfl
    have EP2 : Hid (PT = (tz0, 71)) := EP.out.trans (if_pos hn)
    clear hn EP
    go_enter Tryd.func27, Tryd.ntmps27
    go_upto_region 1 with fail
    rw [← e0]
    clear e0
    go_wp2_with fail
    refine bodyPost_ret (results_ct (a := 6) (b := 7) (t := 25) rfl rfl (loadVar_tx (put8_at B0.out _ _ _ _ _ _ _ _))) rfl ?_
    rw [EP2.out]
    exact ⟨none, 0, rfl, World.ownsRow_nil _ _ _ _, Same.trans K0.out (put8_same ..) (fun i hi e => by omega)⟩
  · have c1 : ((n : Int) == 4096) = false := beq_eq_false_iff_ne.2 (by omega)
    have EP1 : Hid (PT = if ended = false then (tz0, 210) else (t, pc)) := EP.out.trans (if_neg hn)
    clear hn EP
    cases ended with
    | false =>
      have EP2 : Hid (PT = (tz0, 210)) := EP1.out
      clear EP1
      go_enter Tryd.func27, Tryd.ntmps27
      go_upto_region 1 with fail
      rw [← e0]
      clear e0
      go_wp2_with fail
      refine bodyPost_ret (results_ct (a := 6) (b := 7) (t := 25) rfl rfl (loadVar_tx (put8_at B0.out _ _ _ _ _ _ _ _))) rfl ?_
      rw [EP2.out]
      exact ⟨none, 0, rfl, World.ownsRow_nil _ _ _ _, Same.trans K0.out (put8_same ..) (fun i hi e => by omega)⟩
    | true =>
      have EP2 : Hid (PT = (t, pc)) := EP1.out
      have lq0 : Hid (w.heap.size + 1 ≤ W0.heap.size) := lq
      clear EP1 q0 q1 q2 q3 q4 q5 q6 q7 v0 v1 v2 v3 v4 v5 v6 v7 lq
      obtain ⟨f0, f1, f2, f3, f4, f5, f6, ops⟩ := t
      go_enter Tryd.func27, Tryd.ntmps27
      go_upto_region 1 with fail
      rw [← e0]
      clear e0
      go_wp2_with fail
      refine Calls.mono (HP.out _) ?_
      rintro e w1 ⟨a, c, rfl, o1, k1⟩
      have B1 : Hid _ := (k1.block _ (lt_of_heap B0.out) (fun e => e)).trans B0.out
      have K1 : Hid (Kept w w1) := K0.out.trans' k1
      have O1 : Hid (OwnO (w.heap.size + 1) w1 (.slice a ops.length c) ops) := by
        exact o1.lower lq0.out
      simp only [txV]
      obtain ⟨⟨q0, q1, q2, q3, q4, q5, q6, q7⟩, v0, v1, v2, v3, v4, v5, v6, v7⟩ := tx_obj B1.out
      have lq := lt_of_heap B1.out
      clear o1 k1 B0 K0
      go_wp2_with fail
      refine bodyPost_ret (results_ct (a := 6) (b := 7) (t := 25) rfl rfl (loadVar_tx (put8_at B1.out _ _ _ _ _ _ _ _))) rfl ?_
      rw [EP2.out]
      have k9 := put8_same w1 w.heap.size (.int .i64 f0) (.int .i64 f1) (.int .i64 f2) (.int .i64 f3) (.int .i64 f4) (.int .i64 f5) (.int .i64 f6) (.slice a ops.length c)
      have o9 := OwnO.kept O1.out k9 (fun j hj e => by have := (OwnO.blk O1.out hj).1; omega)
      refine ⟨a, c, rfl, ?_, Same.trans K1.out k9 (fun i hi e => by omega)⟩
      rcases o9.2 with ⟨e, hn⟩ | ⟨g, cap, cur, e, hb, r⟩
      · exact ⟨o9.1, .inl ⟨e, hn⟩⟩
      · exact ⟨o9.1, .inr ⟨g, cap, cur, e, by omega, r⟩⟩
end Go.Proofs.YtlldgibpajbabaaDoor

namespace Go.Proofs.YtlldgibpajbabaaDoor
open Go.RowKit

/-- The length of a text. -/
def txLen : Value → Nat
  | .string b => b.size
  | _ => 0
/-- What ParseLog leaves. -/
def PlgP (w : World) (P : List TxM × Nat × Int) (e : Ending) (w' : World) : Prop := ∃ v m, e = .returned (.tuple #[v, .int .i64 (P.2.1 : Nat), .int .i64 P.2.2]) ∧ m.map TxR.t = P.1 ∧ Lst w.heap.size w' v m ∧ Kept w w'
set_option maxRecDepth 100000 in
set_option maxHeartbeats 3200000 in
theorem parseLog_any (s0 : List UInt8) (w : World) (hl : s0.length ≤ 4294967280) (hm : Mx w) : Calls Tryd.prog 14 #[tx s0] w (PlgP w (plogP s0)) := by
  unfold PlgP
  have EP : Hid (plR s0.length [] s0 = plogP s0) := rfl
  generalize plogP s0 = P at *
  have HC : Hid (∀ W (s : List UInt8), Kept w W → s.length ≤ s0.length → Calls Tryd.prog 26 #[tx s, tx [10]] W fun e w' => e = .returned (.tuple #[tx (cutb 10 s).1, tx (cutb 10 s).2.1, .bool (cutb 10 s).2.2]) ∧ ∃ n, w' = W.drewN n) := fun W s k h => cut_any 10 (by omega) (hm.on k)
  have HP : Hid (∀ W (s : List UInt8) (n : Nat), s.length ≤ s0.length → _) := fun W s n h => parseLogLine_any (cutb 10 s).1 (cutb 10 s).2.2 n W (by
    have : (cutb 10 s).1.length ≤ s.length := by
      unfold cutb
      split
      · exact Nat.le_refl _
      · rw [List.length_take]; omega
    omega)
  have HL : Hid ((s0.length : Int) ≤ 4294967280) := by show _ ≤ _; omega
  clear hl hm
  go_enter Tryd.func14, Tryd.ntmps14
  go_wp2_with fail
  go_loopw [0, 5] (fun v0 v5 W => ∃ (s : List UInt8) (m : List TxR) (n : Nat), v0 = tx s ∧ Lst w.heap.size W v5 m ∧ plR n (m.map TxR.t) s = P ∧ s.length ≤ n ∧ s.length ≤ s0.length ∧ m.length ≤ 4096 ∧ Kept w W) (fun v0 _ _ => txLen v0)
  case atStart => exact ⟨s0, [], s0.length, rfl, Lst.nil _ _, EP.out, Nat.le_refl _, Nat.le_refl _, Nat.zero_le _, Same.refl _ _⟩
  case round =>
    obtain ⟨s, m, n, rfl, hlst, he, hn, hs, hm, hk⟩ := hrel
    have HLS : Hid (Lst w.heap.size wr u5 m) := hlst
    have HE : Hid _ := he
    have HN : Hid (s.length ≤ n ∧ s.length ≤ s0.length ∧ m.length ≤ 4096) := ⟨hn, hs, hm⟩
    have KW : Hid (Kept w wr) := hk
    obtain ⟨a5, c5, e5, -⟩ := OwnT.txs hlst.row
    clear hlst he hn hs hm hk EP
    subst e5
    by_cases hse : s = []
    · have EE : Hid (P = (m.map TxR.t, 0, 0)) := by
        show _ = _
        rw [← HE.out, hse, plR_end]
      subst hse
      clear HE HN HC HP HL
      go_wp2_with fail
      go_ret3
      rw [EE.out]
      exact ⟨_, m, rfl, rfl, HLS.out, KW.out⟩
    · have hem : s.isEmpty = false := by
        cases s with
        | nil => exact absurd rfl hse
        | cons x y => rfl
      have HCW : Hid _ := HC.out wr s KW.out HN.out.2.1
      have HPW : Hid (∀ W, _) := fun W => HP.out W s m.length HN.out.2.1
      have HB : Hid ((plineT (cutb 10 s).1 (cutb 10 s).2.2 m.length).2 ≠ 0 → P = ([], m.length, (plineT (cutb 10 s).1 (cutb 10 s).2.2 m.length).2)) := fun h => by
        have e := plR_bad (acc := m.map TxR.t) hse HN.out.1 (by rw [List.length_map]; exact h)
        rw [HE.out, List.length_map] at e
        exact e
      have HG : Hid ((plineT (cutb 10 s).1 (cutb 10 s).2.2 m.length).2 = 0 → ∃ n', plR n' (m.map TxR.t ++ [(plineT (cutb 10 s).1 (cutb 10 s).2.2 m.length).1]) (cutb 10 s).2.1 = P ∧ (cutb 10 s).2.1.length ≤ n' ∧ (cutb 10 s).2.1.length < s.length ∧ m.length ≠ 4096) := fun h => by
        have h0 : s.length ≠ 0 := fun e => hse (List.eq_nil_of_length_eq_zero e)
        have hn := HN.out.1
        obtain ⟨n', rfl⟩ : ∃ n', n = n' + 1 := ⟨n - 1, by omega⟩
        obtain ⟨e1, e2, e3, -⟩ := plR_good (acc := m.map TxR.t) hse (by rw [List.length_map]; exact h)
        rw [HE.out, List.length_map] at e1
        rw [List.length_map] at e3
        exact ⟨n', e1.symm, by omega, e2, e3⟩
      clear HE hse HC HP
      generalize plineT (cutb 10 s).1 (cutb 10 s).2.2 m.length = PL at *
      generalize cutb 10 s = CB at *
      obtain ⟨ca, cr, cb⟩ := CB
      obtain ⟨t, pc⟩ := PL
      dsimp only at HB HG HCW HPW
      go_wp2_with fail
      refine Calls.mono HCW.out ?_
      rintro e w1 ⟨rfl, nd, e1⟩
      have K1 : Hid (Kept w w1) := by rw [e1]; exact KW.out.trans' (Same.drewN (Same.refl _ _) nd)
      have L1 : Hid (Lst w.heap.size w1 (.slice a5 m.length c5) m) := by rw [e1]; exact HLS.out.on (Same.drewN (Same.refl _ _) nd)
      clear e1 KW HLS HCW
      go_wp2_with fail
      refine Calls.mono (HPW.out _) ?_
      rintro e w2 ⟨a, c, rfl, o2, k2⟩
      have O2 : Hid (OwnO w1.heap.size w2 (.slice a t.ops.length c) t.ops) := o2
      have K2 : Hid (Kept w w2) := K1.out.trans' k2
      have KK : Hid (Kept w1 w2) := k2
      clear o2 k2 HPW
      have B3 : Hid _ := heap_new w2 (TxR.obj ⟨t, a, c⟩)
      have hb2 : w2.heap.size < (w2.alloc (TxR.obj ⟨t, a, c⟩)).heap.size := lt_of_heap B3.out
      unfold TxR.obj at B3 hb2
      dsimp only at B3 hb2
      simp only [txV]
      obtain ⟨⟨d0, d1, d2, d3, d4, d5, d6, d7⟩, -⟩ := tx_obj B3.out
      by_cases hv : pc = 0
      · subst hv
        obtain ⟨n', g1, g2, g3, g4⟩ := HG.out rfl
        have HM : Hid (m.length ≠ 4096 ∧ m.length ≤ 4096 ∧ cr.length ≤ n' ∧ cr.length < s.length ∧ s.length ≤ s0.length ∧ plR n' (m.map TxR.t ++ [t]) cr = P) := ⟨g4, HN.out.2.2, g2, g3, HN.out.2.1, g1⟩
        have HAP : Hid (∀ ty, _) := fun ty => lst_more (r := ⟨t, a, c⟩) L1.out KK.out O2.out (by have h9 := HM.out.2.1; omega) K1.out.size ty
        unfold TxR.obj at HAP
        dsimp only at HAP
        clear g1 g2 g3 g4 HB HG HN
        go_wp2_with (at_builtin; refine wpList_app rfl (.tmp 32) (.tmp 34) 33 33 rfl (.slice a5 m.length c5) _ rfl rfl _ HAP.out ?_; rintro v7 w7 ⟨⟨a7, c7, rfl⟩, l7, s7⟩)
        have L7 : Hid (Lst w.heap.size w7 (.slice a7 (m.length + 1) c7) (m ++ [⟨t, a, c⟩])) := l7
        have K7 : Hid (Kept w w7) := Same.trans K1.out s7 (fun i hi e => by omega)
        clear l7 s7
        go_roundw
        case rel =>
          obtain ⟨h1, h2, h3, h4, h5, h6⟩ := HM.out
          refine ⟨cr, m ++ [⟨t, a, c⟩], n', rfl, L7.out, ?_, h3, by omega, ?_, K7.out⟩
          · rw [List.map_append]
            exact h6
          · rw [List.length_append]
            simp only [List.length_cons, List.length_nil]
            omega
        case measure =>
          obtain ⟨h1, h2, h3, h4, h5, h6⟩ := HM.out
          show (⟨cr.toArray⟩ : ByteArray).size < (⟨s.toArray⟩ : ByteArray).size
          rw [sz, sz]
          exact h4
      · have hv' : (pc == 0) = false := beq_eq_false_iff_ne.2 hv
        have hv2 : (pc != 0) = true := by rw [bne, hv']; rfl
        have EE : Hid (P = ([], m.length, pc)) := HB.out hv
        clear HB HG hv hv'
        go_wp2_with fail
        go_ret3
        rw [EE.out]
        exact ⟨_, [], rfl, rfl, Lst.nil _ _, Same.alloc K2.out _⟩
end Go.Proofs.YtlldgibpajbabaaDoor
