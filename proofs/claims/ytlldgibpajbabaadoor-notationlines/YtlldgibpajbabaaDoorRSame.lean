/- What is proved: the document's Same answers true of two transactions in memory that are alike; no condition. -/
import Derived.Test.YtlldgibpajbabaaDoorRVal
namespace Go.Proofs.YtlldgibpajbabaaDoor
open Go.RowKit

theorem op_alike (o : OpM) (w : World) : (binOp .neq 49 (opV o) (opV o)).run Tryd.prog w = .ok (.bool false) w := by
  obtain ⟨kind, key, found, value⟩ := o
  unfold opV
  go_simp
set_option maxRecDepth 100000 in
set_option maxHeartbeats 3200000 in
theorem sameT (w : World) (t : TxM) (va vb : Value) (ha : TxA w t va) (hb : TxA w t vb) (hn : t.ops.length ≤ 9223372036854775807) : Calls Tryd.prog 9 #[va, vb] w fun e w' => e = .returned (.bool true) ∧ Kept w w' := by
  obtain ⟨a, c, rfl, oa⟩ := ha
  obtain ⟨b, d, rfl, ob⟩ := hb
  obtain ⟨n, en⟩ : ∃ n, n = t.ops.length := ⟨_, rfl⟩
  rw [← en] at hn ⊢
  have EN : Hid _ := en
  have OA : Hid _ := oa
  have OB : Hid _ := ob
  have HQ : Hid (∀ o w, _) := fun o w => op_alike o w
  unfold txV
  clear oa ob en
  go_enter Tryd.func9, Tryd.ntmps9
  go_wp2_with fail
  go_loopw [5] (fun i wr => ∃ j : Nat, i = .int .i64 j ∧ j ≤ n ∧ Kept ((w.alloc (.cells #[.int .i64 t.f0, .int .i64 t.f1, .int .i64 t.f2, .int .i64 t.f3, .int .i64 t.f4, .int .i64 t.f5, .int .i64 t.f6, .slice a n c] 25 (0, 0))).alloc (.cells #[.int .i64 t.f0, .int .i64 t.f1, .int .i64 t.f2, .int .i64 t.f3, .int .i64 t.f4, .int .i64 t.f5, .int .i64 t.f6, .slice b n d] 25 (0, 0))) wr) (fun i _ => n - (intOf i).toNat)
  case atStart => exact ⟨0, rfl, Nat.zero_le _, Same.refl _ _⟩
  case round =>
    obtain ⟨j, rfl, hj, kk⟩ := hrel
    obtain ⟨b1, b2⟩ := Same.two kk (fun h => h) (fun h => h)
    obtain ⟨⟨-, -, -, -, -, -, -, c7⟩, -⟩ := tx_obj b1
    obtain ⟨⟨-, -, -, -, -, -, -, d7⟩, -⟩ := tx_obj b2
    have KK : Hid _ := kk
    have KW : Hid (Kept w wr) := (((Same.refl _ w).alloc _).alloc _).trans' kk
    clear kk b1 b2
    by_cases hlt : j < n
    · have e1 : decide ((j : Int) < (n : Int)) = true := decide_eq_true (by omega)
      have hlt2 : (j : Int) < (n : Int) := by omega
      obtain ⟨o, he⟩ : ∃ o, t.ops[j]? = some o := ⟨_, List.getElem?_eq_getElem (by rw [← EN.out]; exact hlt)⟩
      obtain ⟨x, ox, rfl, hx, q0, q1, q2, q3⟩ := (OpsAt.on OA.out KW.out) j o he
      obtain ⟨y, oy, rfl, hy, r0, r1, r2, r3⟩ := (OpsAt.on OB.out KW.out) j o he
      have hq := HQ.out o
      unfold opV at hq
      have hj1 : (j : Int) + 1 ≤ 9223372036854775807 := by omega
      clear he
      go_wp2_with fail
      go_quiet (fail)
      go_wp2_with fail
      go_roundw
      case rel => exact ⟨j + 1, by congr 1, hlt, KK.out.drewN _⟩
      case measure => simp only [intOf]; omega
    · obtain rfl : j = n := by omega
      have e1 : decide ((j : Int) < (j : Int)) = false := decide_eq_false (by omega)
      go_wp2_with fail
      go_ret
      exact ⟨rfl, KW.out⟩
end Go.Proofs.YtlldgibpajbabaaDoor
