/- What is proved: a config's text is read back; the law ConfigBack; condition: the library's table of powers lies as its text lays it. -/
import Derived.Test.YtolooejcgdknnaaDoorCfL
namespace Go.Proofs.YtolooejcgdknnaaDoor
open Go.RowKit

theorem dec_no {n : Nat} {c : UInt8} (hc : dg c = false) : c ∉ Lib.decDigits n := fun h => by
  have := List.all_eq_true.1 (dec_dg n) c h
  rw [hc] at this
  cases this
theorem pc_no32 {x : Cg} {k n : Nat} (h : fl x k = (n : Int)) : 32 ∉ pc x k := by
  unfold pc
  rw [h, itoa_nat]
  intro hm
  rw [List.mem_append, List.mem_append] at hm
  rcases hm with (hm | hm) | hm
  · unfold nmC at hm
    revert hm
    split <;> decide
  · revert hm; decide
  · exact dec_no (by decide) hm
theorem stg_pc {x : Cg} {k n : Nat} (hk : k < 5) (h : fl x k = (n : Int)) (hn : n < 1000000000000000) : stg (pc x k) = some (k, n) := by
  rw [stg_iff]
  refine ⟨hk, Lib.decDigits n, ?_, numb_dec hn⟩
  unfold pc
  rw [h, itoa_nat]
  simp
/-- The pieces of a config's text. -/
theorem pcs_pr {x : Cg} (hx : Nn x) : pcs (pr x 5) = [pc x 0, pc x 1, pc x 2, pc x 3, pc x 4] := by
  have h : ∀ k, 32 ∉ pc x k := fun k => pc_no32 (n := (fl x k).toNat) (by have := hx k; omega)
  have e : pr x 5 = pc x 0 ++ 32 :: (pc x 1 ++ 32 :: (pc x 2 ++ 32 :: (pc x 3 ++ 32 :: pc x 4))) := by simp [pr]
  rw [e, pcs_at (h 0), pcs_at (h 1), pcs_at (h 2), pcs_at (h 3), pcs_no (h 4)]
theorem rd_pr {x : Cg} (hx : Nn x) : rdC (pr x 5) = some x := by
  have h : ∀ k, k < 5 → stg (pc x k) = some (k, (fl x k).toNat) := fun k hk => stg_pc hk (by have := hx k; omega) (by have := hx k; omega)
  have f : ∀ k, ((fl x k).toNat : Int) = fl x k := fun k => by have := hx k; omega
  unfold rdC
  rw [if_neg (by simp [pr, pc, nmC]), pcs_pr hx]
  simp only [rdP, h 0 (by omega), h 1 (by omega), h 2 (by omega), h 3 (by omega), h 4 (by omega), f]
  obtain ⟨a, b, c, d, e⟩ := x
  simp [sn0, Sn.at, Sn.on, Cg.put, fl]
theorem parse_pr {x : Cg} (hx : Nn x) : parseC (pr x 5) = if chk x ≠ 0 then (zC, chk x) else (x, 0) := by
  unfold parseC
  rw [rd_pr hx]
set_option maxRecDepth 100000 in
theorem backC_law (x : Cg) (w : World) (ht : Tab w.heap.size w) : Calls Tryd.prog 5 #[.agg #[.int .i64 x.a, .int .i64 x.b, .int .i64 x.c, .int .i64 x.d, .int .i64 x.e]] w fun e w' => e = .returned (.bool true) ∧ Kept w w' := by
  have HA : Hid (∀ W, Kept w W → _) := fun W k => anchor_any23 W (ht.upK W k)
  have HP : Hid (∀ W, Kept w W → _) := fun W k => print_cf x W (ht.upK W k)
  have HC : Hid (∀ W, _) := check_cf x
  have HT : Hid (chk x = 0 → ∀ W, _) := fun h W => parse_cf (pr x 5) W (by have := pr_len h 5 (by omega); omega)
  have E2 : Hid (chk x = 0 → parseC (pr x 5) = (x, 0)) := fun h => by rw [parse_pr (nn_ok h), h]; rfl
  have E0 : Hid (chk x = 0 → printC x = (pr x 5, 0)) := fun h => by unfold printC; rw [h]; rfl
  have E1 : Hid (chk x ≠ 0 → printC x = ([], chk x)) := fun h => by unfold printC; rw [if_pos h]
  generalize printC x = PC at *
  clear ht
  go_enter Tryd.func5, Tryd.ntmps5
  go_wp2_with fail
  refine Calls.mono (HA.out _ ((Same.refl _ w).alloc _)) ?_
  rintro r w1 ⟨rfl, k1⟩
  have K1 : Hid (Kept w w1) := ((Same.refl _ w).alloc _).trans' k1
  have B1 : Hid (w1.heap[w.heap.size]? = some (.cells #[.int .i64 x.a, .int .i64 x.b, .int .i64 x.c, .int .i64 x.d, .int .i64 x.e] 23 (0, 0))) := (k1.block _ (by simp) (fun e => e)).trans (heap_new _ _)
  clear k1
  have c0 : w1.cell? ⟨w.heap.size, 0, none⟩ = some (.int .i64 x.a) := cell_of B1.out 0
  have c1 : w1.cell? ⟨w.heap.size, 1, none⟩ = some (.int .i64 x.b) := cell_of B1.out 1
  have c2 : w1.cell? ⟨w.heap.size, 2, none⟩ = some (.int .i64 x.c) := cell_of B1.out 2
  have c3 : w1.cell? ⟨w.heap.size, 3, none⟩ = some (.int .i64 x.d) := cell_of B1.out 3
  have c4 : w1.cell? ⟨w.heap.size, 4, none⟩ = some (.int .i64 x.e) := cell_of B1.out 4
  have yl := lt_of_heap B1.out
  go_wp2_with fail
  refine Calls.mono (HP.out _ K1.out) ?_
  rintro r w2 ⟨rfl, k2⟩
  have K2 : Hid (Kept w w2) := K1.out.trans' k2
  have B2 : Hid (w2.heap[w.heap.size]? = some (.cells #[.int .i64 x.a, .int .i64 x.b, .int .i64 x.c, .int .i64 x.d, .int .i64 x.e] 23 (0, 0))) := (k2.block _ (lt_of_heap B1.out) (fun e => e)).trans B1.out
  clear k2 c0 c1 c2 c3 c4 yl B1 K1
  have c0 : w2.cell? ⟨w.heap.size, 0, none⟩ = some (.int .i64 x.a) := cell_of B2.out 0
  have c1 : w2.cell? ⟨w.heap.size, 1, none⟩ = some (.int .i64 x.b) := cell_of B2.out 1
  have c2 : w2.cell? ⟨w.heap.size, 2, none⟩ = some (.int .i64 x.c) := cell_of B2.out 2
  have c3 : w2.cell? ⟨w.heap.size, 3, none⟩ = some (.int .i64 x.d) := cell_of B2.out 3
  have c4 : w2.cell? ⟨w.heap.size, 4, none⟩ = some (.int .i64 x.e) := cell_of B2.out 4
  have yl := lt_of_heap B2.out
  by_cases hz : chk x = 0
  · have HTX : Hid (∀ W, _) := HT.out hz
    rw [E2.out hz] at HTX
    rw [E0.out hz]
    rw [hz] at HC
    clear hz HT E0 E1 E2
    generalize pr x 5 = L at *
    simp only [paV] at HTX
    go_wp2_with fail
    refine Calls.mono (HC.out _) ?_
    rintro r w4 ⟨rfl, k4⟩
    have K4 : Hid (Kept w w4) := K2.out.trans' k4
    have B4 : Hid (w4.heap[w.heap.size]? = some (.cells #[.int .i64 x.a, .int .i64 x.b, .int .i64 x.c, .int .i64 x.d, .int .i64 x.e] 23 (0, 0))) := (k4.block _ (lt_of_heap B2.out) (fun e => e)).trans B2.out
    clear k4 c0 c1 c2 c3 c4 yl B2 K2
    go_wp2_with fail
    refine Calls.mono (HTX.out _) ?_
    rintro r w5 ⟨rfl, k5⟩
    have K5 : Hid (Kept w w5) := K4.out.trans' k5
    have B5 : Hid (w5.heap[w.heap.size]? = some (.cells #[.int .i64 x.a, .int .i64 x.b, .int .i64 x.c, .int .i64 x.d, .int .i64 x.e] 23 (0, 0))) := (k5.block _ (lt_of_heap B4.out) (fun e => e)).trans B4.out
    clear k5 B4 K4
    have c0 : w5.cell? ⟨w.heap.size, 0, none⟩ = some (.int .i64 x.a) := cell_of B5.out 0
    have c1 : w5.cell? ⟨w.heap.size, 1, none⟩ = some (.int .i64 x.b) := cell_of B5.out 1
    have c2 : w5.cell? ⟨w.heap.size, 2, none⟩ = some (.int .i64 x.c) := cell_of B5.out 2
    have c3 : w5.cell? ⟨w.heap.size, 3, none⟩ = some (.int .i64 x.d) := cell_of B5.out 3
    have c4 : w5.cell? ⟨w.heap.size, 4, none⟩ = some (.int .i64 x.e) := cell_of B5.out 4
    have yl := lt_of_heap B5.out
    go_wp2_with fail
    go_ret
    exact ⟨rfl, K5.out.alloc _⟩
  · rw [E1.out hz]
    have hq : (chk x != 0) = true := by simpa using hz
    have hq2 : (chk x != chk x) = false := by simp
    generalize chk x = Z at *
    clear hz HT E0 E1 E2
    go_wp2_with fail
    refine Calls.mono (HC.out _) ?_
    rintro r w4 ⟨rfl, k4⟩
    have K4 : Hid (Kept w w4) := K2.out.trans' k4
    clear k4
    go_wp2_with fail
    go_ret
    exact ⟨rfl, K4.out⟩
end Go.Proofs.YtolooejcgdknnaaDoor
