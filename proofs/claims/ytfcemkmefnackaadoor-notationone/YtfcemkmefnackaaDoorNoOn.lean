/- What is proved: the law NotationOne returns true and turns nothing that was there; condition: the library's table of powers lies as its text lays it. -/
import Derived.Test.YtfcemkmefnackaaDoorNoBL
import Derived.Test.YtfcemkmefnackaaDoorNoSf
namespace Go.Proofs.YtfcemkmefnackaaDoor
open Go.RowKit

theorem add_bytes (a b : List UInt8) : (⟨a.toArray⟩ : ByteArray) ++ (⟨b.toArray⟩ : ByteArray) = ⟨(a ++ b).toArray⟩ := by
  apply ByteArray.ext
  simp [ByteArray.data_append]
theorem add_tx (a b : List UInt8) (w : World) (h : a.length + b.length ≤ 9223372036854775807) : (binOp .add 9 (tx a) (tx b)).run Tryd.prog w = .ok (tx (a ++ b)) w := by
  go_simp
  rw [if_neg (by omega), add_bytes]
theorem line_first (t : TxM) : (line t).head? = some 115 := by
  rw [line_eq]
  unfold numL
  rfl
theorem parse_blank (l : List UInt8) : parseT (32 :: l) = (tz0, 210) := by
  have h : (readT (32 :: l)).2 = false := by
    cases e : (readT (32 :: l)).2 with
    | false => rfl
    | true =>
      obtain ⟨t, -, ht⟩ := read_form e
      have := line_first t
      rw [ht] at this
      simp at this
  unfold parseT
  rw [if_pos h]
theorem tx_beq (a b : List UInt8) : ((⟨a.toArray⟩ : ByteArray).toList == (⟨b.toArray⟩ : ByteArray).toList) = decide (a = b) := by
  rw [ByteArray.toList_eq, ByteArray.toList_eq]
  by_cases h : a = b
  · subst h; simp
  · rw [decide_eq_false h]
    exact beq_eq_false_iff_ne.2 (by simpa using h)
theorem zero_txa (W : World) : TxA W tz0 (.agg #[.int .i64 0, .int .i64 0, .int .i64 0, .int .i64 0, .int .i64 0, .int .i64 0, .int .i64 0, .slice none 0 0]) := ⟨none, 0, rfl, OpsAt.nil _ _⟩

set_option maxRecDepth 100000 in
set_option maxHeartbeats 3200000 in
theorem one_law (w : World) (l r : List UInt8) (hl : l.length ≤ 140737488351232) (hr : r.length ≤ 140737488351232) (ht : Tab w.heap.size w) : Calls Tryd.prog 7 #[tx l, tx r] w fun e w' => e = .returned (.bool true) ∧ Kept w w' := by
  have HAN : Hid (∀ W, Kept w W → _) := fun W (k : Kept w W) => anchor_any21 W (ht.up (Nat.le_refl _) k)
  have HPA : Hid (∀ (l : List UInt8) W, l.length ≤ 140737488355328 → _) := fun l W (h : l.length ≤ 140737488355328) => parse_any l W h
  have HP : Hid (∀ W t v, Kept w W → TxA W t v → _) := fun W t v (k : Kept w W) hv => print_any W t v hv (ht.up (Nat.le_refl _) k)
  have HS : Hid (∀ W t va vb, TxA W t va → TxA W t vb → t.ops.length ≤ 9223372036854775807 → _) := fun W t va vb h1 h2 h3 => sameT W t va vb h1 h2 h3
  have HF : Hid (∀ W t u va vb, TxA W t va → TxA W u vb → t.ops.length ≤ 9223372036854775807 → u.ops.length ≤ 9223372036854775807 → t ≠ u → _) := fun W t u va vb h1 h2 h3 h4 h5 => sameF W t u va vb h1 h2 h3 h4 h5
  have TXA : Hid (∀ W b t a' c', OwnO b W (.slice a' t.ops.length c') t.ops → TxA W t (txV t (.slice a' t.ops.length c'))) := fun W b t a' c' o => OwnO.txa o
  have HR1 : Hid ((parseT l).2 = 0 → Right (parseT l).1 ∧ line (parseT l).1 = l ∧ l.length ≤ 1025 ∧ printT (parseT l).1 = (l, 0)) := fun h => by
    obtain ⟨h1, h2⟩ := parse_right h
    refine ⟨h1, h2, ?_, ?_⟩
    · rw [← h2]; exact line_len h1
    · unfold printT
      rw [if_neg (by rw [valid_zero.2 h1]; simp), h2]
  have HR2 : Hid ((parseT l).2 ≠ 0 → (parseT l).1 = tz0) := parse_none
  have HR3 : Hid ((parseT (l ++ r)).2 = 0 → (parseT l).2 = 0 → r ≠ [] → (parseT l).1 ≠ (parseT (l ++ r)).1 ∧ (parseT l).1.ops.length ≤ 16 ∧ (parseT (l ++ r)).1.ops.length ≤ 16) := fun h h0 hne => by
    obtain ⟨h1, h2⟩ := parse_right h
    obtain ⟨h3, h4⟩ := parse_right h0
    refine ⟨fun e => ?_, h3.2.1, h1.2.1⟩
    rw [← e, h4] at h2
    exact hne (List.append_cancel_left (h2.symm.trans (List.append_nil l).symm))
  have HB : Hid _ := parse_blank l
  clear ht
  have P1 : Hid _ := HPA.out l
  have P2 : Hid _ := HPA.out (32 :: l)
  have P3 : Hid _ := HPA.out (l ++ r)
  rw [HB.out] at P2
  clear HPA HB
  have EQL : Hid (∀ l : List UInt8, ((⟨l.toArray⟩ : ByteArray).toList == (⟨l.toArray⟩ : ByteArray).toList) = true) := fun l => by rw [tx_beq]; simp
  generalize parseT l = PT at *
  generalize parseT (l ++ r) = PU at *
  obtain ⟨t, pc⟩ := PT
  obtain ⟨u, pu⟩ := PU
  dsimp only at P1 P3 HR1 HR2 HR3
  go_enter Tryd.func7, Tryd.ntmps7
  go_wp2_with fail
  refine Calls.mono (HAN.out _ (Same.refl _ w)) ?_
  rintro e w1 ⟨rfl, k1⟩
  have K1 : Hid (Kept w w1) := k1
  clear k1 HAN
  go_wp2_with fail
  refine Calls.mono (P1.out _ (by omega)) ?_
  rintro e w2 ⟨a2, c2, rfl, o2, k2⟩
  have X2 : Hid (TxA w2 t (txV t (.slice a2 t.ops.length c2))) := TXA.out _ _ _ _ _ o2
  have K2 : Hid (Kept w w2) := K1.out.trans' k2
  clear k2 o2 P1 K1
  obtain ⟨W3, e3⟩ : ∃ W3, W3 = w2.alloc (.cells #[.int .i64 t.f0, .int .i64 t.f1, .int .i64 t.f2, .int .i64 t.f3, .int .i64 t.f4, .int .i64 t.f5, .int .i64 t.f6, .slice a2 t.ops.length c2] 38 (0, 0)) := ⟨_, rfl⟩
  have B3 : Hid (W3.heap[w2.heap.size]? = some (.cells #[.int .i64 t.f0, .int .i64 t.f1, .int .i64 t.f2, .int .i64 t.f3, .int .i64 t.f4, .int .i64 t.f5, .int .i64 t.f6, .slice a2 t.ops.length c2] 38 (0, 0))) := by rw [e3]; exact heap_new w2 _
  have K3 : Hid (Kept w W3) := by rw [e3]; exact K2.out.alloc _
  have X3 : Hid (TxA W3 t (txV t (.slice a2 t.ops.length c2))) := X2.out.on (by rw [e3]; exact (Same.refl _ _).alloc _)
  clear X2 K2
  simp only [txV] at X3 ⊢
  generalize hn : t.ops.length = n at *
  have HN : Hid _ := hn
  clear hn
  go_upto_region 4 with fail
  rw [← e3]
  clear e3
  obtain ⟨⟨d0, d1, d2, d3, d4, d5, d6, d7⟩, -⟩ := tx_obj B3.out
  have ld := lt_of_heap B3.out
  by_cases hv : pc = 0
  · subst hv
    obtain ⟨R0, R1, R2, R3⟩ := HR1.out rfl
    have PR : Hid _ := HP.out W3 t _ K3.out X3.out
    rw [R3] at PR
    have hq := EQL.out l
    have A1 : Hid ((⟨#[32]⟩ : ByteArray) ++ (⟨l.toArray⟩ : ByteArray) = ⟨(32 :: l).toArray⟩) := add_bytes [32] l
    have A2 : Hid ((⟨l.toArray⟩ : ByteArray) ++ (⟨r.toArray⟩ : ByteArray) = ⟨(l ++ r).toArray⟩) := add_bytes l r
    have hs1 : ¬ 9223372036854775807 < 1 + l.length := by omega
    have hs2 : ¬ 9223372036854775807 < l.length + r.length := by omega
    have EQR : Hid (((⟨r.toArray⟩ : ByteArray).toList == (ByteArray.toList ⟨#[]⟩)) = decide (r = [])) := tx_beq r []
    have L1 : Hid ((32 :: l).length ≤ 140737488355328) := by show _ ≤ _; simp; omega
    have L2 : Hid ((l ++ r).length ≤ 140737488355328) := by show _ ≤ _; simp; omega
    clear R0 R1 R3 HR1 HR2 EQL
    go_wp2_with fail
    refine Calls.mono PR.out ?_
    rintro e w4 ⟨rfl, k4⟩
    have K4 : Hid _ := K3.out.trans' k4
    have B4 : Hid _ := (k4.block _ (lt_of_heap B3.out) (fun e => e)).trans B3.out
    have X4 : Hid (TxA w4 t _) := X3.out.on k4
    clear k4 PR B3 X3 K3 d0 d1 d2 d3 d4 d5 d6 d7 ld
    dsimp only
    go_wp2_with fail
    rw [A1.out]
    refine Calls.mono (P2.out _ L1.out) ?_
    rintro e w5 ⟨a5, c5, rfl, -, k5⟩
    have K5 : Hid (Kept w w5) := K4.out.trans' k5
    have B5 : Hid _ := (k5.block _ (lt_of_heap B4.out) (fun e => e)).trans B4.out
    have X5 : Hid (TxA w5 t _) := X4.out.on k5
    clear k5 B4 X4 K4 P2
    simp only [txV, tz0, List.length_nil]
    obtain ⟨W6, e6⟩ : ∃ W6, W6 = w5.alloc (.cells #[.int .i64 0, .int .i64 0, .int .i64 0, .int .i64 0, .int .i64 0, .int .i64 0, .int .i64 0, .slice a5 0 c5] 38 (0, 0)) := ⟨_, rfl⟩
    have kk : Kept w5 W6 := by rw [e6]; exact (Same.refl _ w5).alloc _
    have K6 : Hid (Kept w W6) := K5.out.trans' kk
    have B6 : Hid _ := (kk.block _ (lt_of_heap B5.out) (fun e => e)).trans B5.out
    have X6 : Hid (TxA W6 t _) := X5.out.on kk
    clear kk B5 X5 K5
    go_upto_region 10 with fail
    rw [← e6]
    clear e6
    go_wp2_with fail
    rw [A2.out]
    refine Calls.mono (P3.out _ L2.out) ?_
    rintro e w7 ⟨a7, c7, rfl, o7, k7⟩
    have X7 : Hid (TxA w7 u (txV u (.slice a7 u.ops.length c7))) := TXA.out _ _ _ _ _ o7
    have K7 : Hid (Kept w w7) := K6.out.trans' k7
    have B7 : Hid _ := (k7.block _ (lt_of_heap B6.out) (fun e => e)).trans B6.out
    have Y7 : Hid (TxA w7 t _) := X6.out.on k7
    clear k7 B6 X6 K6 P3 o7
    simp only [txV] at X7 ⊢
    generalize hm : u.ops.length = m at *
    have HM : Hid _ := hm
    clear hm
    obtain ⟨W8, e8⟩ : ∃ W8, W8 = w7.alloc (.cells #[.int .i64 u.f0, .int .i64 u.f1, .int .i64 u.f2, .int .i64 u.f3, .int .i64 u.f4, .int .i64 u.f5, .int .i64 u.f6, .slice a7 m c7] 38 (0, 0)) := ⟨_, rfl⟩
    have kk : Kept w7 W8 := by rw [e8]; exact (Same.refl _ w7).alloc _
    have C8 : Hid (W8.heap[w7.heap.size]? = some (.cells #[.int .i64 u.f0, .int .i64 u.f1, .int .i64 u.f2, .int .i64 u.f3, .int .i64 u.f4, .int .i64 u.f5, .int .i64 u.f6, .slice a7 m c7] 38 (0, 0))) := by rw [e8]; exact heap_new w7 _
    have K8 : Hid (Kept w W8) := K7.out.trans' kk
    have B8 : Hid _ := (kk.block _ (lt_of_heap B7.out) (fun e => e)).trans B7.out
    have X8 : Hid (TxA W8 u _) := X7.out.on kk
    have Y8 : Hid (TxA W8 t _) := Y7.out.on kk
    clear kk B7 X7 Y7 K7
    go_upto_region 13 with fail
    rw [← e8]
    clear e8
    obtain ⟨⟨d0, d1, d2, d3, d4, d5, d6, d7⟩, -⟩ := tx_obj B8.out
    obtain ⟨⟨x0, x1, x2, x3, x4, x5, x6, x7⟩, -⟩ := tx_obj C8.out
    have ld := lt_of_heap B8.out
    have lx := lt_of_heap C8.out
    by_cases hre : r = []
    · subst hre
      go_wp2_with fail
      go_ret
      exact ⟨rfl, K8.out⟩
    · have hq2 := EQR.out.trans (decide_eq_false hre)
      have hq3 : r.toArray ≠ #[] := by simpa using hre
      have hq4 : r ≠ [] := hre
      by_cases hpu : pu = 0
      · subst hpu
        obtain ⟨N1, N2, N3⟩ := HR3.out rfl (by first | rfl | trivial) hre
        have NN : Hid _ := And.intro N1 (And.intro N2 N3)
        clear N1 N2 N3
        go_wp2_with fail
        refine Calls.mono (HF.out _ t u _ _ Y8.out X8.out (by have := NN.out.2.1; have := HN.out; omega) (by have := NN.out.2.2; have := HM.out; omega) NN.out.1) ?_
        rintro e w9 ⟨rfl, k9⟩
        have K9 : Hid _ := K8.out.trans' k9
        clear k9
        go_wp2_with fail
        go_ret
        exact ⟨rfl, K9.out⟩
      · have hu : (pu == 0) = false := beq_eq_false_iff_ne.2 hpu
        have hu2 : (pu != 0) = true := by rw [bne, hu]; rfl
        go_wp2_with fail
        go_ret
        exact ⟨rfl, K8.out⟩
  · have hv' : (pc == 0) = false := beq_eq_false_iff_ne.2 hv
    have hv2 : (pc != 0) = true := by rw [bne, hv']; rfl
    have ET : Hid _ := HR2.out hv
    have Z3 : Hid (∀ W, _) := zero_txa
    go_wp2_with fail
    refine Calls.mono (HS.out _ tz0 _ _ (by rw [← ET.out]; exact X3.out) (Z3.out _) (by decide)) ?_
    rintro e w4 ⟨rfl, k4⟩
    have K4 : Hid _ := K3.out.trans' k4
    clear k4
    go_wp2_with fail
    go_ret
    exact ⟨rfl, K4.out⟩
end Go.Proofs.YtfcemkmefnackaaDoor
