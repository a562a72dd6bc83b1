/- What is proved: the document's Same answers false of two transactions in memory that are not alike; condition: they fit in memory. -/
import Derived.Test.YtfcemkmefnackaaDoorRSame
namespace Go.Proofs.YtfcemkmefnackaaDoor
open Go.RowKit

theorem list_bytes {a b : ByteArray} (e : a.toList = b.toList) : a = b := by
  apply ByteArray.ext
  rw [ByteArray.toList_eq, ByteArray.toList_eq] at e
  exact Array.toList_inj.1 e
theorem op_differ (o p : OpM) (h : o ≠ p) (w : World) : (binOp .neq 64 (opV o) (opV p)).run Tryd.prog w = .ok (.bool true) w := by
  obtain ⟨k1, a1, d1, v1⟩ := o
  obtain ⟨k2, a2, d2, v2⟩ := p
  unfold opV
  go_simp
  intro e1 e2 e3 e4
  exact h (by rw [e1, list_bytes e2, e3, list_bytes e4])
theorem ne_two {x y : Int} (h : x ≠ y) : (x == y) = false ∧ (x != y) = true := by
  have := beq_eq_false_iff_ne.2 h
  exact ⟨this, by rw [bne, this]; rfl⟩
set_option maxRecDepth 100000 in
set_option maxHeartbeats 3200000 in
theorem sameF (w : World) (t u : TxM) (va vb : Value) (ha : TxA w t va) (hb : TxA w u vb) (hn : t.ops.length ≤ 9223372036854775807) (hm : u.ops.length ≤ 9223372036854775807) (hne : t ≠ u) : Calls Tryd.prog 22 #[va, vb] w fun e w' => e = .returned (.bool false) ∧ Kept w w' := by
  obtain ⟨a, c, rfl, oa⟩ := ha
  obtain ⟨b, d, rfl, ob⟩ := hb
  obtain ⟨f0, f1, f2, f3, f4, f5, f6, ops⟩ := t
  obtain ⟨g0, g1, g2, g3, g4, g5, g6, opt⟩ := u
  dsimp only at hn hm oa ob
  obtain ⟨n, en⟩ : ∃ n, n = ops.length := ⟨_, rfl⟩
  obtain ⟨m, em⟩ : ∃ m, m = opt.length := ⟨_, rfl⟩
  have EN : Hid _ := en
  have EM : Hid _ := em
  have OA : Hid _ := oa
  have OB : Hid _ := ob
  have NE : Hid _ := hne
  have HQ : Hid (∀ o w, _) := fun o w => op_alike o w
  have HD : Hid (∀ o p, o ≠ p → ∀ w, _) := fun o p h w => op_differ o p h w
  unfold txV
  rw [← en] at hn
  rw [← em] at hm
  dsimp only
  rw [← en, ← em]
  clear oa ob en em hne
  by_cases e0 : f0 = g0
  case neg => (obtain ⟨q0, q1⟩ := ne_two e0; clear e0; go_enter Tryd.func22, Tryd.ntmps22; go_wp2_with fail; go_ret; exact ⟨rfl, ((Same.refl _ w).alloc _).alloc _⟩)
  subst e0
  by_cases e0 : f1 = g1
  case neg => (obtain ⟨q0, q1⟩ := ne_two e0; clear e0; go_enter Tryd.func22, Tryd.ntmps22; go_wp2_with fail; go_ret; exact ⟨rfl, ((Same.refl _ w).alloc _).alloc _⟩)
  subst e0
  by_cases e0 : f2 = g2
  case neg => (obtain ⟨q0, q1⟩ := ne_two e0; clear e0; go_enter Tryd.func22, Tryd.ntmps22; go_wp2_with fail; go_ret; exact ⟨rfl, ((Same.refl _ w).alloc _).alloc _⟩)
  subst e0
  by_cases e0 : f3 = g3
  case neg => (obtain ⟨q0, q1⟩ := ne_two e0; clear e0; go_enter Tryd.func22, Tryd.ntmps22; go_wp2_with fail; go_ret; exact ⟨rfl, ((Same.refl _ w).alloc _).alloc _⟩)
  subst e0
  by_cases e0 : f4 = g4
  case neg => (obtain ⟨q0, q1⟩ := ne_two e0; clear e0; go_enter Tryd.func22, Tryd.ntmps22; go_wp2_with fail; go_ret; exact ⟨rfl, ((Same.refl _ w).alloc _).alloc _⟩)
  subst e0
  by_cases e0 : f5 = g5
  case neg => (obtain ⟨q0, q1⟩ := ne_two e0; clear e0; go_enter Tryd.func22, Tryd.ntmps22; go_wp2_with fail; go_ret; exact ⟨rfl, ((Same.refl _ w).alloc _).alloc _⟩)
  subst e0
  by_cases e0 : f6 = g6
  case neg => (obtain ⟨q0, q1⟩ := ne_two e0; clear e0; go_enter Tryd.func22, Tryd.ntmps22; go_wp2_with fail; go_ret; exact ⟨rfl, ((Same.refl _ w).alloc _).alloc _⟩)
  subst e0
  by_cases e0 : (n : Int) = (m : Int)
  case neg => (obtain ⟨q0, q1⟩ := ne_two e0; clear e0; go_enter Tryd.func22, Tryd.ntmps22; go_wp2_with fail; go_ret; exact ⟨rfl, ((Same.refl _ w).alloc _).alloc _⟩)
  obtain rfl : n = m := by omega
  clear e0
  go_enter Tryd.func22, Tryd.ntmps22
  go_wp2_with fail
  go_loopw [5] (fun i wr => ∃ j : Nat, i = .int .i64 j ∧ j ≤ n ∧ (∀ i, i < j → ops[i]? = opt[i]?) ∧ Kept ((w.alloc (.cells #[.int .i64 f0, .int .i64 f1, .int .i64 f2, .int .i64 f3, .int .i64 f4, .int .i64 f5, .int .i64 f6, .slice a n c] 38 (0, 0))).alloc (.cells #[.int .i64 f0, .int .i64 f1, .int .i64 f2, .int .i64 f3, .int .i64 f4, .int .i64 f5, .int .i64 f6, .slice b n d] 38 (0, 0))) wr) (fun i _ => n - (intOf i).toNat)
  case atStart => exact ⟨0, rfl, Nat.zero_le _, fun i hi => absurd hi (by omega), Same.refl _ _⟩
  case round =>
    obtain ⟨j, rfl, hj, hal, kk⟩ := hrel
    have HAL : Hid _ := hal
    obtain ⟨b1, b2⟩ := Same.two kk (fun h => h) (fun h => h)
    obtain ⟨⟨-, -, -, -, -, -, -, c7⟩, -⟩ := tx_obj b1
    obtain ⟨⟨-, -, -, -, -, -, -, d7⟩, -⟩ := tx_obj b2
    have KK : Hid _ := kk
    have KW : Hid (Kept w wr) := (((Same.refl _ w).alloc _).alloc _).trans' kk
    clear kk b1 b2 hal
    by_cases hlt : j < n
    · have e1 : decide ((j : Int) < (n : Int)) = true := decide_eq_true (by omega)
      have hlt2 : (j : Int) < (n : Int) := by omega
      obtain ⟨o, he⟩ : ∃ o, ops[j]? = some o := ⟨_, List.getElem?_eq_getElem (by rw [← EN.out]; exact hlt)⟩
      obtain ⟨p, hf⟩ : ∃ p, opt[j]? = some p := ⟨_, List.getElem?_eq_getElem (by rw [← EM.out]; exact hlt)⟩
      obtain ⟨x, ox, rfl, hx, q0, q1, q2, q3⟩ := (OpsAt.on OA.out KW.out) j o he
      obtain ⟨y, oy, rfl, hy, r0, r1, r2, r3⟩ := (OpsAt.on OB.out KW.out) j p hf
      have hj1 : (j : Int) + 1 ≤ 9223372036854775807 := by omega
      by_cases hop : o = p
      · subst hop
        have hq := HQ.out o
        unfold opV at hq
        have HEQ : Hid (ops[j]? = opt[j]?) := he.trans hf.symm
        clear he hf
        go_wp2_with fail
        go_quiet (fail)
        go_wp2_with fail
        go_roundw
        case rel =>
          refine ⟨j + 1, by congr 1, hlt, fun i hi => ?_, KK.out.drewN _⟩
          by_cases h : i < j
          · exact HAL.out i h
          · obtain rfl : i = j := by omega
            exact HEQ.out
        case measure => simp only [intOf]; omega
      · have hq := HD.out o p hop
        unfold opV at hq
        clear he hf hop
        go_wp2_with fail
        go_quiet (fail)
        go_wp2_with fail
        go_ret
        exact ⟨rfl, KW.out.drewN _⟩
    · obtain rfl : j = n := by omega
      exact (NE.out (by
        congr 1
        apply List.ext_getElem?
        intro i
        by_cases h : i < j
        · exact HAL.out i h
        · rw [List.getElem?_eq_none (by rw [← EN.out]; omega), List.getElem?_eq_none (by rw [← EM.out]; omega)])).elim
end Go.Proofs.YtfcemkmefnackaaDoor
