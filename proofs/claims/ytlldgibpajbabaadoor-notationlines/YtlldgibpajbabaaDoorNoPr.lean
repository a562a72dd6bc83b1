/- What is proved: the code's Print; conditions: the library's table of powers lies as its text lays it. -/
import Derived.Test.YtlldgibpajbabaaDoorNoAt
namespace Go.Proofs.YtlldgibpajbabaaDoor
open Go.RowKit

def printT (t : TxM) : List UInt8 × Int := if valid t ≠ 0 then ([], valid t) else (line t, 0)
theorem right_of {t : TxM} (h : valid t = 0) : Right t := by
  unfold valid at h
  split at h
  · omega
  · rename_i h1
    split at h
    · omega
    · rename_i h2
      split at h
      · omega
      · rename_i h3
        exact ⟨Classical.not_not.1 h1, by omega, fun o ho => Classical.byContradiction fun hn => h3 ⟨o, ho, hn⟩⟩

set_option maxRecDepth 100000 in
set_option maxHeartbeats 3200000 in
theorem print_any (w : World) (t : TxM) (v : Value) (h : TxA w t v) (ht : Tab w.heap.size w) : Calls Tryd.prog 17 #[v] w fun e w' => e = .returned (.tuple #[tx (printT t).1, .int .i64 (printT t).2]) ∧ Kept w w' := by
  obtain ⟨a, c, rfl, hops⟩ := h
  have HV : Hid (∀ W, Kept w W → _) := fun W (k : Kept w W) => valid_any W t (txV t (.slice a t.ops.length c)) ⟨a, c, rfl, hops.on k⟩
  have HA : Hid (∀ W, Kept w W → Right t → _) := fun W (k : Kept w W) (hr : Right t) => appendTxn_any (w := W) (base := w.heap.size) (v := .slice none 0 0) (xs := []) t a c hr (hops.on k) (fun j hj => OpsAt.lt hops hj) (OwnB.nil _ _) (by decide) k.size (ht.on ((Kept.to k _).below (Nat.le_refl _) (fun _ e => e)))
  have EP : Hid (printT t = if valid t ≠ 0 then ([], valid t) else (line t, 0)) := rfl
  have HR : Hid (valid t = 0 → Right t) := right_of
  generalize printT t = PT at *
  generalize hvc : valid t = vc at *
  clear hvc hops ht
  generalize line t = LN at *
  obtain ⟨f0, f1, f2, f3, f4, f5, f6, ops⟩ := t
  simp only [txV] at HV HA ⊢
  have B0 : Hid _ := heap_new w (.cells #[.int .i64 f0, .int .i64 f1, .int .i64 f2, .int .i64 f3, .int .i64 f4, .int .i64 f5, .int .i64 f6, .slice a ops.length c] 25 (0, 0))
  obtain ⟨⟨d0, d1, d2, d3, d4, d5, d6, d7⟩, -⟩ := tx_obj B0.out
  have ld := lt_of_heap B0.out
  go_enter Tryd.func17, Tryd.ntmps17
  go_wp2_with fail
  refine Calls.mono (HV.out _ ((Same.refl _ w).alloc _)) ?_
  rintro e w1 ⟨rfl, k1⟩
  have K1 : Hid (Kept w w1) := ((Same.refl _ w).alloc _).trans' k1
  have B1 : Hid _ := (k1.block _ (lt_of_heap B0.out) (fun e => e)).trans B0.out
  clear k1 B0 d0 d1 d2 d3 d4 d5 d6 d7 ld
  obtain ⟨⟨d0, d1, d2, d3, d4, d5, d6, d7⟩, -⟩ := tx_obj B1.out
  have ld := lt_of_heap B1.out
  by_cases hv : vc = 0
  · subst hv
    have HR' : Hid _ := HR.out rfl
    simp only [ne_eq, not_true, if_false] at EP
    go_wp2_with fail
    refine Calls.mono (HA.out _ K1.out HR'.out) ?_
    rintro e w2 ⟨v2, rfl, o2, k2⟩
    rw [List.nil_append] at o2
    have hst := own_str o2
    have K2 : Hid (Kept w w2) := Same.trans K1.out k2.1 (fun i hi e => by omega)
    clear o2 k2
    go_wp2_with fail
    go_ret2
    rw [EP.out]
    exact ⟨rfl, K2.out⟩
  · have hv' : (vc == 0) = false := beq_eq_false_iff_ne.2 hv
    have hv2 : (vc != 0) = true := by rw [bne, hv']; rfl
    rw [if_pos hv] at EP
    go_wp2_with fail
    go_ret2
    rw [EP.out]
    exact ⟨rfl, K1.out⟩
end Go.Proofs.YtlldgibpajbabaaDoor
