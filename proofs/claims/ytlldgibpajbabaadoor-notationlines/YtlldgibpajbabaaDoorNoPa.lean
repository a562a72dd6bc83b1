/- What is proved: the code's Parse; condition: the line's length. -/
import Derived.Test.YtlldgibpajbabaaDoorNoTr
namespace Go.Proofs.YtlldgibpajbabaaDoor
open Go.RowKit

def tz0 : TxM := ⟨0, 0, 0, 0, 0, 0, 0, []⟩
/-- What Parse answers. -/
def parseT (l : List UInt8) : TxM × Int := if (readT l).2 = false then (tz0, 210) else if valid (readT l).1 ≠ 0 then (tz0, valid (readT l).1) else ((readT l).1, 0)
theorem box8 {w : World} {b : Nat} {v0 v1 v2 v3 v4 v5 v6 v7 : Value} (h : w.heap[b]? = some (.cells #[v0, v1, v2, v3, v4, v5, v6, v7] 25 (0, 0))) : b < w.heap.size := lt_of_heap h

set_option maxRecDepth 100000 in
set_option maxHeartbeats 3200000 in
theorem parse_any (l : List UInt8) (w : World) (hl : l.length ≤ 140737488355328) : Calls Tryd.prog 7 #[tx l] w fun e w' => ∃ a c, e = .returned (.tuple #[txV (parseT l).1 (.slice a (parseT l).1.ops.length c), .int .i64 (parseT l).2]) ∧ OwnO w.heap.size w' (.slice a (parseT l).1.ops.length c) (parseT l).1.ops ∧ Kept w w' := by
  have HR : Hid (∀ w, _) := fun w => readTxn_any l w hl
  have EP : Hid (parseT l = if (readT l).2 = false then (tz0, 210) else if valid (readT l).1 ≠ 0 then (tz0, valid (readT l).1) else ((readT l).1, 0)) := rfl
  generalize parseT l = PT at *
  generalize readT l = R at *
  obtain ⟨t, ok⟩ := R
  dsimp only at HR EP
  have HV : Hid (∀ w v, TxA w t v → _) := fun w v h => valid_any w t v h
  go_enter Tryd.func7, Tryd.ntmps7
  go_wp2_with fail
  refine Calls.mono (HR.out _) ?_
  rintro e w1 ⟨a, c, rfl, o1, k1⟩
  have b1 := (k1.block _ (by simp) (fun e => e)).trans (heap_new w _)
  have K1 : Hid (Kept w w1) := ((Same.refl _ w).alloc _).trans' k1
  have B1 : Hid (w1.heap[w.heap.size]? = some (.cells txz 25 (0, 0))) := b1
  have O1 : Hid (OwnO (w.heap.size + 1) w1 (.slice a t.ops.length c) t.ops) := by
    rw [World.size_alloc] at o1
    exact o1
  clear b1 k1 o1 HR
  obtain ⟨f0, f1, f2, f3, f4, f5, f6, ops⟩ := t
  simp only [txV]
  cases ok with
  | false =>
    simp only [if_true] at EP
    obtain ⟨W2, eW2⟩ : ∃ W2, W2 = w1.alloc (.cells #[.int .i64 f0, .int .i64 f1, .int .i64 f2, .int .i64 f3, .int .i64 f4, .int .i64 f5, .int .i64 f6, .slice a ops.length c] 25 (0, 0)) := ⟨_, rfl⟩
    have B2 : Hid (W2.heap[w.heap.size]? = some (.cells txz 25 (0, 0))) := by rw [eW2]; exact (heap_old w1 _ (lt_of_heap B1.out)).trans B1.out
    have K2 : Hid (Kept w W2) := by rw [eW2]; exact K1.out.alloc _
    go_upto_region 3 with fail
    rw [← eW2]
    clear eW2 B1 K1
    obtain ⟨⟨q0, q1, q2, q3, q4, q5, q6, q7⟩, v0, v1, v2, v3, v4, v5, v6, v7⟩ := tx_obj B2.out
    have lq := lt_of_heap B2.out
    go_wp2_with fail
    refine bodyPost_ret (results_ct (a := 2) (b := 3) (t := 25) rfl rfl (loadVar_tx (put8_at B2.out _ _ _ _ _ _ _ _))) rfl ?_
    rw [EP.out]
    exact ⟨none, 0, rfl, World.ownsRow_nil _ _ _ _, Same.trans K2.out (put8_same ..) (fun i hi e => by omega)⟩
  | true =>
    simp only [Bool.true_eq_false, if_false] at EP
    obtain ⟨W2, eW2⟩ : ∃ W2, W2 = w1.alloc (.cells #[.int .i64 f0, .int .i64 f1, .int .i64 f2, .int .i64 f3, .int .i64 f4, .int .i64 f5, .int .i64 f6, .slice a ops.length c] 25 (0, 0)) := ⟨_, rfl⟩
    have B2 : Hid (W2.heap[w.heap.size]? = some (.cells txz 25 (0, 0))) := by rw [eW2]; exact (heap_old w1 _ (lt_of_heap B1.out)).trans B1.out
    have C2 : Hid (W2.heap[w1.heap.size]? = some (.cells #[.int .i64 f0, .int .i64 f1, .int .i64 f2, .int .i64 f3, .int .i64 f4, .int .i64 f5, .int .i64 f6, .slice a ops.length c] 25 (0, 0))) := by rw [eW2]; exact heap_new w1 _
    have K2 : Hid (Kept w W2) := by rw [eW2]; exact K1.out.alloc _
    have O2 : Hid (OwnO (w.heap.size + 1) W2 (.slice a ops.length c) ops) := by rw [eW2]; exact O1.out.on ((Same.refl _ w1).alloc _)
    go_upto_region 4 with fail
    rw [← eW2]
    clear eW2 B1 K1 O1
    obtain ⟨⟨c0, c1, c2, c3, c4, c5, c6, c7⟩, -⟩ := tx_obj C2.out
    have lc := lt_of_heap C2.out
    go_wp2_with fail
    refine Calls.mono (HV.out _ _ (OwnO.txa (t := ⟨f0, f1, f2, f3, f4, f5, f6, ops⟩) O2.out)) ?_
    rintro e w3 ⟨rfl, k3⟩
    have B3 : Hid (w3.heap[w.heap.size]? = some (.cells txz 25 (0, 0))) := (k3.block _ (lt_of_heap B2.out) (fun e => e)).trans B2.out
    have C3 : Hid _ := (k3.block _ (lt_of_heap C2.out) (fun e => e)).trans C2.out
    have K3 : Hid (Kept w w3) := K2.out.trans' k3
    have O3 : Hid _ := O2.out.on k3
    clear k3 HV c0 c1 c2 c3 c4 c5 c6 c7 lc B2 C2 K2 O2
    generalize valid ⟨f0, f1, f2, f3, f4, f5, f6, ops⟩ = vc at *
    obtain ⟨⟨c0, c1, c2, c3, c4, c5, c6, c7⟩, -⟩ := tx_obj C3.out
    obtain ⟨⟨q0, q1, q2, q3, q4, q5, q6, q7⟩, v0, v1, v2, v3, v4, v5, v6, v7⟩ := tx_obj B3.out
    have lq := lt_of_heap B3.out
    have lc := lt_of_heap C3.out
    by_cases hv : vc = 0
    · subst hv
      simp only [ne_eq, not_true, if_false] at EP
      go_wp2_with fail
      refine bodyPost_ret (results_ct (a := 2) (b := 3) (t := 25) rfl rfl (loadVar_tx (put8_at B3.out _ _ _ _ _ _ _ _))) rfl ?_
      rw [EP.out]
      have k9 := put8_same w3 w.heap.size (.int .i64 f0) (.int .i64 f1) (.int .i64 f2) (.int .i64 f3) (.int .i64 f4) (.int .i64 f5) (.int .i64 f6) (.slice a ops.length c)
      have o9 := OwnO.kept O3.out k9 (fun j hj e => by have := (OwnO.blk O3.out hj).1; omega)
      refine ⟨a, c, rfl, ?_, Same.trans K3.out k9 (fun i hi e => by omega)⟩
      rcases o9.2 with ⟨e, hn⟩ | ⟨g, cap, cur, e, hb, r⟩
      · exact ⟨o9.1, .inl ⟨e, hn⟩⟩
      · exact ⟨o9.1, .inr ⟨g, cap, cur, e, by omega, r⟩⟩
    · have hv' : (vc == 0) = false := beq_eq_false_iff_ne.2 hv
      have hv2 : (vc != 0) = true := by rw [bne, hv']; rfl
      rw [if_pos hv] at EP
      go_wp2_with fail
      refine bodyPost_ret (results_ct (a := 2) (b := 3) (t := 25) rfl rfl (loadVar_tx (put8_at B3.out _ _ _ _ _ _ _ _))) rfl ?_
      rw [EP.out]
      exact ⟨none, 0, rfl, World.ownsRow_nil _ _ _ _, Same.trans K3.out (put8_same ..) (fun i hi e => by omega)⟩
end Go.Proofs.YtlldgibpajbabaaDoor
