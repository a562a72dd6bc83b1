/- What is proved: the law NotationParses returns true and turns nothing that was there; conditions: the line has at most 1048576 bytes, and the library's table of powers lies as its text lays it. -/
import Derived.Test.YtlldgibpajbabaaDoorNoRp
import Derived.Test.YtlldgibpajbabaaDoorNoAn
namespace Go.Proofs.YtlldgibpajbabaaDoor
open Go.RowKit

theorem parseT_len (l : List UInt8) : (parseT l).1.ops.length ≤ 16 := by
  by_cases h : (parseT l).2 = 0
  · exact (parse_right h).1.2.1
  · rw [parse_none h]
    decide
set_option maxRecDepth 100000 in
set_option maxHeartbeats 3200000 in
theorem parses_law (l : List UInt8) (w : World) (hl : l.length ≤ 1048576) (ht : Tab w.heap.size w) : Calls Tryd.prog 3 #[tx l] w fun e w' => e = .returned (.bool true) ∧ Kept w w' := by
  have HAN : Hid (∀ W, Kept w W → _) := fun W (k : Kept w W) => anchor_any21 W (ht.up (Nat.le_refl _) k)
  have P1 : Hid (∀ W, _) := fun W => parse_any l W (Nat.le_trans hl (by decide))
  have P2 : Hid (∀ W, _) := fun W => rparse_any l W hl
  have HS : Hid (∀ W t va vb, TxA W t va → TxA W t vb → t.ops.length ≤ 9223372036854775807 → _) := fun W t va vb h1 h2 h3 => sameT W t va vb h1 h2 h3
  have TXA : Hid (∀ W b t a' c', OwnO b W (.slice a' t.ops.length c') t.ops → TxA W t (txV t (.slice a' t.ops.length c'))) := fun W b t a' c' o => OwnO.txa o
  have HL : Hid ((parseT l).1.ops.length ≤ 16) := parseT_len l
  clear ht
  generalize parseT l = PT at *
  obtain ⟨t, pc⟩ := PT
  dsimp only at P1 P2 HL
  go_enter Tryd.func3, Tryd.ntmps3
  go_wp2_with fail
  refine Calls.mono (HAN.out _ (Same.refl _ w)) ?_
  rintro e w1 ⟨rfl, k1⟩
  have K1 : Hid (Kept w w1) := k1
  clear k1 HAN
  go_wp2_with fail
  refine Calls.mono (P1.out _) ?_
  rintro e w2 ⟨a2, c2, rfl, o2, k2⟩
  have X2 : Hid (TxA w2 t (txV t (.slice a2 t.ops.length c2))) := TXA.out _ _ _ _ _ o2
  have K2 : Hid (Kept w w2) := K1.out.trans' k2
  clear k2 o2 P1 K1
  obtain ⟨W3, e3⟩ : ∃ W3, W3 = w2.alloc (.cells #[.int .i64 t.f0, .int .i64 t.f1, .int .i64 t.f2, .int .i64 t.f3, .int .i64 t.f4, .int .i64 t.f5, .int .i64 t.f6, .slice a2 t.ops.length c2] 25 (0, 0)) := ⟨_, rfl⟩
  have B3 : Hid (W3.heap[w2.heap.size]? = some (.cells #[.int .i64 t.f0, .int .i64 t.f1, .int .i64 t.f2, .int .i64 t.f3, .int .i64 t.f4, .int .i64 t.f5, .int .i64 t.f6, .slice a2 t.ops.length c2] 25 (0, 0))) := by rw [e3]; exact heap_new w2 _
  have K3 : Hid (Kept w W3) := by rw [e3]; exact K2.out.alloc _
  have X3 : Hid (TxA W3 t (txV t (.slice a2 t.ops.length c2))) := X2.out.on (by rw [e3]; exact (Same.refl _ _).alloc _)
  clear X2 K2
  simp only [txV] at X3 P2 ⊢
  generalize hn : t.ops.length = n at *
  have HN : Hid _ := hn
  clear hn
  go_upto_region 4 with fail
  rw [← e3]
  clear e3
  go_wp2_with fail
  refine Calls.mono (P2.out _) ?_
  rintro e w4 ⟨a4, c4, rfl, o4, k4⟩
  have X4 : Hid (TxA w4 t _) := X3.out.on k4
  have Y4 : Hid (TxA w4 t (.agg #[.int .i64 t.f0, .int .i64 t.f1, .int .i64 t.f2, .int .i64 t.f3, .int .i64 t.f4, .int .i64 t.f5, .int .i64 t.f6, .slice a4 n c4])) := by
    have h9 := TXA.out w4 W3.heap.size t a4 c4
    rw [HN.out] at h9
    exact h9 o4
  have K4 : Hid (Kept w w4) := K3.out.trans' k4
  have B4 : Hid _ := (k4.block _ (lt_of_heap B3.out) (fun e => e)).trans B3.out
  clear k4 o4 P2 X3 K3 B3
  obtain ⟨W5, e5⟩ : ∃ W5, W5 = w4.alloc (.cells #[.int .i64 t.f0, .int .i64 t.f1, .int .i64 t.f2, .int .i64 t.f3, .int .i64 t.f4, .int .i64 t.f5, .int .i64 t.f6, .slice a4 n c4] 25 (0, 0)) := ⟨_, rfl⟩
  have kk : Kept w4 W5 := by rw [e5]; exact (Same.refl _ w4).alloc _
  have C5 : Hid (W5.heap[w4.heap.size]? = some (.cells #[.int .i64 t.f0, .int .i64 t.f1, .int .i64 t.f2, .int .i64 t.f3, .int .i64 t.f4, .int .i64 t.f5, .int .i64 t.f6, .slice a4 n c4] 25 (0, 0))) := by rw [e5]; exact heap_new w4 _
  have K5 : Hid (Kept w W5) := K4.out.trans' kk
  have B5 : Hid _ := (kk.block _ (lt_of_heap B4.out) (fun e => e)).trans B4.out
  have X5 : Hid (TxA W5 t _) := X4.out.on kk
  have Y5 : Hid (TxA W5 t _) := Y4.out.on kk
  clear kk B4 X4 Y4 K4
  go_upto_region 5 with fail
  rw [← e5]
  clear e5
  obtain ⟨⟨d0, d1, d2, d3, d4, d5, d6, d7⟩, -⟩ := tx_obj B5.out
  obtain ⟨⟨x0, x1, x2, x3, x4, x5, x6, x7⟩, -⟩ := tx_obj C5.out
  have ld := lt_of_heap B5.out
  have lx := lt_of_heap C5.out
  go_wp2_with fail
  refine Calls.mono (HS.out _ t _ _ X5.out Y5.out (by have h9 := HL.out; have h8 := HN.out; omega)) ?_
  rintro e w6 ⟨rfl, k6⟩
  have K6 : Hid (Kept w w6) := K5.out.trans' k6
  clear k6
  go_wp2_with fail
  go_ret
  exact ⟨rfl, K6.out⟩
end Go.Proofs.YtlldgibpajbabaaDoor
