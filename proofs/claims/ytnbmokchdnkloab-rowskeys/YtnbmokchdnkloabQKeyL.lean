/- What is proved: the law RowsKeys answers true, for every order and every two rows; no condition. -/
import Derived.Test.YtnbmokchdnkloabQKeyR
import Derived.Test.YtnbmokchdnkloabQValR
namespace Go.Proofs.Ytnbmokchdnkloab
open Go.RowKit

theorem rkey_any (w : World) (order : Int) (ho : order = 1 ∨ order = 2) (r : RwM) (hr : rightR r) : Calls Try.prog 9 #[.int .i64 order, rowV r] w fun e w' => ∃ v, e = .returned v ∧ OwnB w.heap.size w' v (key9 order r) ∧ Kept w w' := by
  rcases ho with rfl | rfl
  · exact rkey1 w r hr
  · exact rkey2 w r hr
theorem lex_step {p q : List Int} {i : Nat} {x y : Int} (hx : p[i]? = some x) (hy : q[i]? = some y) : lex (p.drop i) (q.drop i) = if x < y then -1 else if y < x then 1 else lex (p.drop (i + 1)) (q.drop (i + 1)) := by
  obtain ⟨h1, rfl⟩ := List.getElem?_eq_some_iff.1 hx
  obtain ⟨h2, rfl⟩ := List.getElem?_eq_some_iff.1 hy
  rw [List.drop_eq_getElem_cons h1, List.drop_eq_getElem_cons h2]
  rfl
set_option maxRecDepth 100000 in
set_option maxHeartbeats 400000 in
theorem keys_order (order : Int) (h1 : order ≠ 1) (h2 : order ≠ 2) (a b : RwM) (w : World) : Calls Try.prog 3 #[.int .i64 order, rowV a, rowV b] w fun e w' => e = .returned (.bool true) ∧ Kept w w' := by
  have H0 : Hid (∀ W, _) := anchor9_any
  have H1 : Hid (∀ W, _) := fun W => key_order W order h1 h2 a
  have H2 : Hid (∀ W, _) := fun W => key_order W order h1 h2 b
  have HM : Hid _ := bx2_new w a b
  have d1 : (order != 1) = true := by simpa using h1
  have d2 : (order != 2) = true := by simpa using h2
  obtain ⟨kind, time, seq, index, frm, til, body⟩ := a
  obtain ⟨kind', time', seq', index', frm', til', body'⟩ := b
  unfold rowV at *
  simp only at *
  clear h1 h2
  go_enter Try.func3, Try.ntmps3
  go_wp2_with fail
  refine Calls.mono (H0.out _) ?_
  rintro e w1 ⟨rfl, k1⟩
  have M1 : Hid _ := HM.out.on k1
  clear k1 HM H0
  obtain ⟨-, c0, c1, c2, c3, c4, c5, c6, -⟩ := M1.out.cells w1 (Same.refl _ _)
  have hl1 := lt_of_heap M1.out.one
  go_wp2_with fail
  refine Calls.mono (H1.out _) ?_
  rintro e w2 ⟨rfl, k2⟩
  have M2 : Hid _ := M1.out.on k2
  clear k2 M1 c0 c1 c2 c3 c4 c5 c6
  obtain ⟨-, -, -, -, -, -, -, -, e0, e1, e2, e3, e4, e5, e6⟩ := M2.out.cells w2 (Same.refl _ _)
  have hl2 := lt_of_heap M2.out.two
  go_wp2_with fail
  refine Calls.mono (H2.out _) ?_
  rintro e w3 ⟨rfl, k3⟩
  have M3 : Hid _ := M2.out.on k3
  clear k3 M2
  go_wp2_with fail
  go_ret
  exact ⟨rfl, M3.out.kept⟩
theorem key_gen (w : World) (order : Int) (ho : order = 1 ∨ order = 2) (r : RwM) : Calls Try.prog 5 #[.int .i64 order, rowV r] w fun e w' => ∃ a n c z, e = .returned (.tuple #[.slice a n c, .int .i64 z]) ∧ Kept w w' := by
  by_cases h : rightR r
  · refine Calls.mono (key_ok w order ho r h) ?_
    rintro e w' ⟨v, rfl, o, k⟩
    obtain ⟨a, c, rfl, -⟩ := OwnB.bytes o
    exact ⟨_, _, _, _, rfl, k⟩
  · refine Calls.mono (key_row w order ho r h) ?_
    rintro e w' ⟨rfl, k⟩
    exact ⟨_, _, _, _, rfl, k⟩
set_option maxRecDepth 100000 in
set_option maxHeartbeats 800000 in
theorem keysA1 (a b : RwM) (ha : ¬ rightR a) (w : World) : Calls Try.prog 3 #[.int .i64 1, rowV a, rowV b] w fun e w' => e = .returned (.bool true) ∧ Kept w w' := by
  have H0 : Hid (∀ W, _) := anchor9_any
  have HM : Hid _ := bx2_new w a b
  have HP1 : Hid (∀ W, _) := fun W => plain_any a W
  have HV1 : Hid (∀ W, _) := fun W => validR9_any a W
  rw [decide_eq_false ha] at HV1
  have H1 : Hid (∀ W, _) := fun W => key_row W 1 (.inl rfl) a ha
  have H2 : Hid (∀ W, _) := fun W => key_gen W 1 (.inl rfl) b
  clear ha
  obtain ⟨kind, time, seq, index, frm, til, body⟩ := a
  obtain ⟨kind', time', seq', index', frm', til', body'⟩ := b
  unfold rowV at *
  simp only at *
  go_enter Try.func3, Try.ntmps3
  go_wp2_with fail
  refine Calls.mono (H0.out _) ?_
  rintro e w1 ⟨rfl, k1⟩
  have M1 : Hid _ := HM.out.on k1
  clear k1 HM H0
  obtain ⟨-, c0, c1, c2, c3, c4, c5, c6, -⟩ := M1.out.cells w1 (Same.refl _ _)
  have hl1 := lt_of_heap M1.out.one
  go_wp2_with fail
  refine Calls.mono (H1.out _) ?_
  rintro e w2 ⟨rfl, k2⟩
  have M2 : Hid _ := M1.out.on k2
  clear k2 M1 c0 c1 c2 c3 c4 c5 c6
  obtain ⟨-, -, -, -, -, -, -, -, e0, e1, e2, e3, e4, e5, e6⟩ := M2.out.cells w2 (Same.refl _ _)
  have hl2 := lt_of_heap M2.out.two
  go_wp2_with fail
  refine Calls.mono (H2.out _) ?_
  rintro e w3 ⟨qa, qn, qc, qz, rfl, k3⟩
  have M3 : Hid _ := M2.out.on k3
  clear k3 M2 e0 e1 e2 e3 e4 e5 e6
  obtain ⟨-, c0, c1, c2, c3, c4, c5, c6, -⟩ := M3.out.cells w3 (Same.refl _ _)
  have hl3 := lt_of_heap M3.out.one
  go_wp2_with fail
  refine Calls.mono (HP1.out _) ?_
  rintro e w4 ⟨rfl, k4⟩
  have M4 : Hid _ := M3.out.on k4
  clear k4 M3 c0 c1 c2 c3 c4 c5 c6
  go_wp2_with fail
  refine Calls.mono (HV1.out _) ?_
  rintro e w5 ⟨rfl, k5⟩
  have M5 : Hid _ := M4.out.on k5
  clear k5 M4
  go_wp2_with fail
  go_ret
  exact ⟨rfl, M5.out.kept⟩
set_option maxRecDepth 100000 in
set_option maxHeartbeats 800000 in
theorem keysB1 (a b : RwM) (ha : rightR a) (hb : ¬ rightR b) (w : World) : Calls Try.prog 3 #[.int .i64 1, rowV a, rowV b] w fun e w' => e = .returned (.bool true) ∧ Kept w w' := by
  have H0 : Hid (∀ W, _) := anchor9_any
  have HM : Hid _ := bx2_new w a b
  have HP1 : Hid (∀ W, _) := fun W => plain_any a W
  have HV1 : Hid (∀ W, _) := fun W => validR9_any a W
  rw [decide_eq_true ha] at HV1
  have HP2 : Hid (∀ W, _) := fun W => plain_any b W
  have HV2 : Hid (∀ W, _) := fun W => validR9_any b W
  have H1 : Hid (∀ W, _) := fun W => key_ok W 1 (.inl rfl) a ha
  have HR1 : Hid (∀ W, _) := fun W => rkey_any W 1 (.inl rfl) a ha
  rw [decide_eq_false hb] at HV2
  have H2 : Hid (∀ W, _) := fun W => key_row W 1 (.inl rfl) b hb
  obtain ⟨K1, eK⟩ : ∃ K, K = key9 1 a := ⟨_, rfl⟩
  rw [← eK] at H1 HR1
  obtain ⟨n, en⟩ : ∃ n, n = K1.length := ⟨_, rfl⟩
  have hn16 : n ≤ 16 := by rw [en, eK]; exact (key_len (.inl rfl) a b).2
  have EN : Hid _ := en
  have HS : Hid (∀ (W : World) (x y : Option Addr) (cx cy : Nat), BytesAt W x K1 → BytesAt W y K1 → Calls Try.prog 8 #[.slice x n cx, .slice y n cy] W fun e w' => e = .returned (.bool true) ∧ w' = W) := fun W x y cx cy hx hy => by
    have := same_true W x y cx cy K1 hx hy (by rw [← en]; omega)
    rw [← en] at this
    exact this
  clear ha hb eK en
  obtain ⟨kind, time, seq, index, frm, til, body⟩ := a
  obtain ⟨kind', time', seq', index', frm', til', body'⟩ := b
  unfold rowV at *
  simp only at *
  go_enter Try.func3, Try.ntmps3
  go_wp2_with fail
  refine Calls.mono (H0.out _) ?_
  rintro e w1 ⟨rfl, k1⟩
  have M1 : Hid _ := HM.out.on k1
  clear k1 HM H0
  obtain ⟨-, c0, c1, c2, c3, c4, c5, c6, -⟩ := M1.out.cells w1 (Same.refl _ _)
  have hl1 := lt_of_heap M1.out.one
  go_wp2_with fail
  refine Calls.mono (H1.out _) ?_
  rintro e w2 ⟨v2, rfl, o2, k2⟩
  obtain ⟨a2, cp2, rfl, d2, -⟩ := OwnB.bytes o2
  rw [← EN.out]
  have M2 : Hid _ := M1.out.on k2
  have D2 : Hid _ := d2
  clear k2 M1 o2 d2 c0 c1 c2 c3 c4 c5 c6
  obtain ⟨-, -, -, -, -, -, -, -, e0, e1, e2, e3, e4, e5, e6⟩ := M2.out.cells w2 (Same.refl _ _)
  have hl2 := lt_of_heap M2.out.two
  go_wp2_with fail
  refine Calls.mono (H2.out _) ?_
  rintro e w3 ⟨rfl, k3⟩
  have M3 : Hid _ := M2.out.on k3
  have D3 : Hid _ := BytesAt.kept D2.out k3 (fun _ _ h => h)
  clear k3 M2 D2 e0 e1 e2 e3 e4 e5 e6
  obtain ⟨-, c0, c1, c2, c3, c4, c5, c6, -⟩ := M3.out.cells w3 (Same.refl _ _)
  have hl3 := lt_of_heap M3.out.one
  go_wp2_with fail
  refine Calls.mono (HP1.out _) ?_
  rintro e w4 ⟨rfl, k4⟩
  have M4 : Hid _ := M3.out.on k4
  have D4 : Hid _ := BytesAt.kept D3.out k4 (fun _ _ h => h)
  clear k4 M3 D3 c0 c1 c2 c3 c4 c5 c6
  go_wp2_with fail
  refine Calls.mono (HV1.out _) ?_
  rintro e w5 ⟨rfl, k5⟩
  have M5 : Hid _ := M4.out.on k5
  have D5 : Hid _ := BytesAt.kept D4.out k5 (fun _ _ h => h)
  clear k5 M4 D4
  obtain ⟨-, c0, c1, c2, c3, c4, c5, c6, -⟩ := M5.out.cells w5 (Same.refl _ _)
  have hl5 := lt_of_heap M5.out.one
  go_wp2_with fail
  refine Calls.mono (HP1.out _) ?_
  rintro e w6 ⟨rfl, k6⟩
  have M6 : Hid _ := M5.out.on k6
  have D6 : Hid _ := BytesAt.kept D5.out k6 (fun _ _ h => h)
  clear k6 M5 D5 c0 c1 c2 c3 c4 c5 c6
  go_wp2_with fail
  refine Calls.mono (HR1.out _) ?_
  rintro e w7 ⟨v7, rfl, o7, k7⟩
  obtain ⟨a7, cp7, rfl, d7, -⟩ := OwnB.bytes o7
  rw [← EN.out]
  have M7 : Hid _ := M6.out.on k7
  have D7 : Hid _ := BytesAt.kept D6.out k7 (fun _ _ h => h)
  have R7 : Hid _ := d7
  clear k7 M6 D6 o7 d7
  go_wp2_with fail
  refine Calls.mono (HS.out _ _ _ _ _ D7.out R7.out) ?_
  rintro e w8 ⟨rfl, ew⟩
  rw [← ew] at M7 D7
  clear ew R7
  obtain ⟨-, -, -, -, -, -, -, -, e0, e1, e2, e3, e4, e5, e6⟩ := M7.out.cells w8 (Same.refl _ _)
  have hl8 := lt_of_heap M7.out.two
  go_wp2_with fail
  refine Calls.mono (HP2.out _) ?_
  rintro e w9 ⟨rfl, k9⟩
  have M9 : Hid _ := M7.out.on k9
  have D9 : Hid _ := BytesAt.kept D7.out k9 (fun _ _ h => h)
  clear k9 M7 D7 e0 e1 e2 e3 e4 e5 e6
  go_wp2_with fail
  refine Calls.mono (HV2.out _) ?_
  rintro e wa ⟨rfl, ka⟩
  have MA : Hid _ := M9.out.on ka
  have DA : Hid _ := BytesAt.kept D9.out ka (fun _ _ h => h)
  clear ka M9 D9
  go_wp2_with fail
  go_ret
  exact ⟨rfl, MA.out.kept⟩
set_option maxRecDepth 100000 in
set_option maxHeartbeats 800000 in
theorem keysC1 (a b : RwM) (ha : rightR a) (hb : rightR b) (w : World) : Calls Try.prog 3 #[.int .i64 1, rowV a, rowV b] w fun e w' => e = .returned (.bool true) ∧ Kept w w' := by
  have H0 : Hid (∀ W, _) := anchor9_any
  have HM : Hid _ := bx2_new w a b
  have HP1 : Hid (∀ W, _) := fun W => plain_any a W
  have HV1 : Hid (∀ W, _) := fun W => validR9_any a W
  rw [decide_eq_true ha] at HV1
  have HP2 : Hid (∀ W, _) := fun W => plain_any b W
  have HV2 : Hid (∀ W, _) := fun W => validR9_any b W
  have H1 : Hid (∀ W, _) := fun W => key_ok W 1 (.inl rfl) a ha
  have HR1 : Hid (∀ W, _) := fun W => rkey_any W 1 (.inl rfl) a ha
  rw [decide_eq_true hb] at HV2
  have H2 : Hid (∀ W, _) := fun W => key_ok W 1 (.inl rfl) b hb
  have HC : Hid (∀ W, _) := fun W => compare_any 1 a b W
  have HLX : Hid _ := lex_key (.inl rfl) ha hb
  have hlen := (key_len (.inl rfl) a b).1
  obtain ⟨K1, eK⟩ : ∃ K, K = key9 1 a := ⟨_, rfl⟩
  rw [← eK] at H1 HR1
  obtain ⟨n, en⟩ : ∃ n, n = K1.length := ⟨_, rfl⟩
  have hn16 : n ≤ 16 := by rw [en, eK]; exact (key_len (.inl rfl) a b).2
  have EN : Hid _ := en
  have HS : Hid (∀ (W : World) (x y : Option Addr) (cx cy : Nat), BytesAt W x K1 → BytesAt W y K1 → Calls Try.prog 8 #[.slice x n cx, .slice y n cy] W fun e w' => e = .returned (.bool true) ∧ w' = W) := fun W x y cx cy hx hy => by
    have := same_true W x y cx cy K1 hx hy (by rw [← en]; omega)
    rw [← en] at this
    exact this
  obtain ⟨K2, eK2⟩ : ∃ K, K = key9 1 b := ⟨_, rfl⟩
  rw [← eK2] at H2
  rw [← eK, ← eK2] at HLX
  have EN2 : Hid (n = K2.length) := by show n = _; rw [en, eK, eK2]; exact hlen
  obtain ⟨z, ez⟩ : ∃ z, z = comp 1 a b := ⟨_, rfl⟩
  rw [← ez] at HC HLX
  clear ha hb eK en eK2 ez hlen
  obtain ⟨kind, time, seq, index, frm, til, body⟩ := a
  obtain ⟨kind', time', seq', index', frm', til', body'⟩ := b
  unfold rowV at *
  simp only at *
  go_enter Try.func3, Try.ntmps3
  go_wp2_with fail
  refine Calls.mono (H0.out _) ?_
  rintro e w1 ⟨rfl, k1⟩
  have M1 : Hid _ := HM.out.on k1
  clear k1 HM H0
  obtain ⟨-, c0, c1, c2, c3, c4, c5, c6, -⟩ := M1.out.cells w1 (Same.refl _ _)
  have hl1 := lt_of_heap M1.out.one
  go_wp2_with fail
  refine Calls.mono (H1.out _) ?_
  rintro e w2 ⟨v2, rfl, o2, k2⟩
  obtain ⟨a2, cp2, rfl, d2, -⟩ := OwnB.bytes o2
  rw [← EN.out]
  have M2 : Hid _ := M1.out.on k2
  have D2 : Hid _ := d2
  clear k2 M1 o2 d2 c0 c1 c2 c3 c4 c5 c6
  obtain ⟨-, -, -, -, -, -, -, -, e0, e1, e2, e3, e4, e5, e6⟩ := M2.out.cells w2 (Same.refl _ _)
  have hl2 := lt_of_heap M2.out.two
  go_wp2_with fail
  refine Calls.mono (H2.out _) ?_
  rintro e w3 ⟨v3, rfl, o3, k3⟩
  obtain ⟨a3, cp3, rfl, d3, -⟩ := OwnB.bytes o3
  rw [← EN2.out]
  have M3 : Hid _ := M2.out.on k3
  have D3 : Hid _ := BytesAt.kept D2.out k3 (fun _ _ h => h)
  have F3 : Hid _ := d3
  clear k3 M2 D2 o3 d3 e0 e1 e2 e3 e4 e5 e6
  obtain ⟨-, c0, c1, c2, c3, c4, c5, c6, -⟩ := M3.out.cells w3 (Same.refl _ _)
  have hl3 := lt_of_heap M3.out.one
  go_wp2_with fail
  refine Calls.mono (HP1.out _) ?_
  rintro e w4 ⟨rfl, k4⟩
  have M4 : Hid _ := M3.out.on k4
  have D4 : Hid _ := BytesAt.kept D3.out k4 (fun _ _ h => h)
  have F4 : Hid _ := BytesAt.kept F3.out k4 (fun _ _ h => h)
  clear k4 M3 D3 c0 c1 c2 c3 c4 c5 c6
  go_wp2_with fail
  refine Calls.mono (HV1.out _) ?_
  rintro e w5 ⟨rfl, k5⟩
  have M5 : Hid _ := M4.out.on k5
  have D5 : Hid _ := BytesAt.kept D4.out k5 (fun _ _ h => h)
  have F5 : Hid _ := BytesAt.kept F4.out k5 (fun _ _ h => h)
  clear k5 M4 D4
  obtain ⟨-, c0, c1, c2, c3, c4, c5, c6, -⟩ := M5.out.cells w5 (Same.refl _ _)
  have hl5 := lt_of_heap M5.out.one
  go_wp2_with fail
  refine Calls.mono (HP1.out _) ?_
  rintro e w6 ⟨rfl, k6⟩
  have M6 : Hid _ := M5.out.on k6
  have D6 : Hid _ := BytesAt.kept D5.out k6 (fun _ _ h => h)
  have F6 : Hid _ := BytesAt.kept F5.out k6 (fun _ _ h => h)
  clear k6 M5 D5 c0 c1 c2 c3 c4 c5 c6
  go_wp2_with fail
  refine Calls.mono (HR1.out _) ?_
  rintro e w7 ⟨v7, rfl, o7, k7⟩
  obtain ⟨a7, cp7, rfl, d7, -⟩ := OwnB.bytes o7
  rw [← EN.out]
  have M7 : Hid _ := M6.out.on k7
  have D7 : Hid _ := BytesAt.kept D6.out k7 (fun _ _ h => h)
  have R7 : Hid _ := d7
  have F7 : Hid _ := BytesAt.kept F6.out k7 (fun _ _ h => h)
  clear k7 M6 D6 o7 d7
  go_wp2_with fail
  refine Calls.mono (HS.out _ _ _ _ _ D7.out R7.out) ?_
  rintro e w8 ⟨rfl, ew⟩
  rw [← ew] at M7 D7
  rw [← ew] at F7
  clear ew R7
  obtain ⟨-, -, -, -, -, -, -, -, e0, e1, e2, e3, e4, e5, e6⟩ := M7.out.cells w8 (Same.refl _ _)
  have hl8 := lt_of_heap M7.out.two
  go_wp2_with fail
  refine Calls.mono (HP2.out _) ?_
  rintro e w9 ⟨rfl, k9⟩
  have M9 : Hid _ := M7.out.on k9
  have D9 : Hid _ := BytesAt.kept D7.out k9 (fun _ _ h => h)
  have F9 : Hid _ := BytesAt.kept F7.out k9 (fun _ _ h => h)
  clear k9 M7 D7 e0 e1 e2 e3 e4 e5 e6
  go_wp2_with fail
  refine Calls.mono (HV2.out _) ?_
  rintro e wa ⟨rfl, ka⟩
  have MA : Hid _ := M9.out.on ka
  have DA : Hid _ := BytesAt.kept D9.out ka (fun _ _ h => h)
  have FA : Hid _ := BytesAt.kept F9.out ka (fun _ _ h => h)
  clear ka M9 D9
  go_wp2_with fail
  go_loopw [94] (fun i wr => ∃ j : Nat, i = .int .i64 j ∧ j ≤ n ∧ wr = wa ∧ lex K1 K2 = lex (K1.drop j) (K2.drop j)) (fun i _ => n - (intOf i).toNat)
  case atStart => exact ⟨0, rfl, Nat.zero_le _, rfl, rfl⟩
  case round =>
    obtain ⟨j, rfl, hj, rfl, hlx⟩ := hrel
    by_cases hlt : j < n
    · have t1 : decide ((j : Int) < (n : Int)) = true := decide_eq_true (by omega)
      have hlt2 : (j : Int) < (n : Int) := by omega
      obtain ⟨x, hx⟩ : ∃ x, K1[j]? = some x := ⟨_, List.getElem?_eq_getElem (by rw [← EN.out]; exact hlt)⟩
      obtain ⟨y, hy⟩ : ∃ y, K2[j]? = some y := ⟨_, List.getElem?_eq_getElem (by rw [← EN2.out]; exact hlt)⟩
      rw [lex_step hx hy] at hlx
      obtain ⟨b1, o1, rfl, -, q1⟩ := DA.out j x hx
      obtain ⟨b2, o2, rfl, -, q2⟩ := FA.out j y hy
      clear hx hy
      rcases Int.lt_trichotomy x y with hxy | rfl | hxy
      · rw [if_pos hxy] at hlx
        obtain rfl : z = -1 := by rw [← HLX.out]; exact hlx
        have t2 : (x != y) = true := by simp; omega
        have t3 : decide (x < y) = true := decide_eq_true hxy
        obtain ⟨-, c0, c1, c2, c3, c4, c5, c6, e0, e1, e2, e3, e4, e5, e6⟩ := MA.out.cells wr (Same.refl _ _)
        have hla := lt_of_heap MA.out.two
        clear hlx
        go_wp2_with fail
        refine Calls.mono (HC.out _) ?_
        rintro e wb ⟨rfl, kb⟩
        have KB : Hid _ := MA.out.kept.trans' kb
        clear kb
        go_wp2_with fail
        go_ret
        exact ⟨rfl, KB.out⟩
      · rw [if_neg (by omega), if_neg (by omega)] at hlx
        have HX2 : Hid _ := hlx
        have t2 : (x != x) = false := by simp
        clear hlx
        go_wp2_with fail
        go_roundw
        case rel => exact ⟨j + 1, by rw [Int.natCast_add]; rfl, hlt, trivial, HX2.out⟩
        case measure => simp only [intOf]; omega
      · rw [if_neg (by omega), if_pos hxy] at hlx
        obtain rfl : z = 1 := by rw [← HLX.out]; exact hlx
        have t2 : (x != y) = true := by simp; omega
        have t3 : decide (x < y) = false := decide_eq_false (by omega)
        obtain ⟨-, c0, c1, c2, c3, c4, c5, c6, e0, e1, e2, e3, e4, e5, e6⟩ := MA.out.cells wr (Same.refl _ _)
        have hla := lt_of_heap MA.out.two
        clear hlx
        go_wp2_with fail
        refine Calls.mono (HC.out _) ?_
        rintro e wb ⟨rfl, kb⟩
        have KB : Hid _ := MA.out.kept.trans' kb
        clear kb
        go_wp2_with fail
        go_ret
        exact ⟨rfl, KB.out⟩
    · obtain rfl : j = n := by omega
      have t1 : decide ((j : Int) < (j : Int)) = false := by simp
      obtain rfl : z = 0 := by
        rw [← HLX.out, hlx, List.drop_eq_nil_of_le (by rw [← EN.out]; exact Nat.le_refl _)]
        rfl
      obtain ⟨-, c0, c1, c2, c3, c4, c5, c6, e0, e1, e2, e3, e4, e5, e6⟩ := MA.out.cells wr (Same.refl _ _)
      have hla := lt_of_heap MA.out.two
      clear hlx
      go_wp2_with fail
      refine Calls.mono (HC.out _) ?_
      rintro e wb ⟨rfl, kb⟩
      have KB : Hid _ := MA.out.kept.trans' kb
      clear kb
      go_wp2_with fail
      go_ret
      exact ⟨rfl, KB.out⟩
set_option maxRecDepth 100000 in
set_option maxHeartbeats 800000 in
theorem keysA2 (a b : RwM) (ha : ¬ rightR a) (w : World) : Calls Try.prog 3 #[.int .i64 2, rowV a, rowV b] w fun e w' => e = .returned (.bool true) ∧ Kept w w' := by
  have H0 : Hid (∀ W, _) := anchor9_any
  have HM : Hid _ := bx2_new w a b
  have HP1 : Hid (∀ W, _) := fun W => plain_any a W
  have HV1 : Hid (∀ W, _) := fun W => validR9_any a W
  rw [decide_eq_false ha] at HV1
  have H1 : Hid (∀ W, _) := fun W => key_row W 2 (.inr rfl) a ha
  have H2 : Hid (∀ W, _) := fun W => key_gen W 2 (.inr rfl) b
  clear ha
  obtain ⟨kind, time, seq, index, frm, til, body⟩ := a
  obtain ⟨kind', time', seq', index', frm', til', body'⟩ := b
  unfold rowV at *
  simp only at *
  go_enter Try.func3, Try.ntmps3
  go_wp2_with fail
  refine Calls.mono (H0.out _) ?_
  rintro e w1 ⟨rfl, k1⟩
  have M1 : Hid _ := HM.out.on k1
  clear k1 HM H0
  obtain ⟨-, c0, c1, c2, c3, c4, c5, c6, -⟩ := M1.out.cells w1 (Same.refl _ _)
  have hl1 := lt_of_heap M1.out.one
  go_wp2_with fail
  refine Calls.mono (H1.out _) ?_
  rintro e w2 ⟨rfl, k2⟩
  have M2 : Hid _ := M1.out.on k2
  clear k2 M1 c0 c1 c2 c3 c4 c5 c6
  obtain ⟨-, -, -, -, -, -, -, -, e0, e1, e2, e3, e4, e5, e6⟩ := M2.out.cells w2 (Same.refl _ _)
  have hl2 := lt_of_heap M2.out.two
  go_wp2_with fail
  refine Calls.mono (H2.out _) ?_
  rintro e w3 ⟨qa, qn, qc, qz, rfl, k3⟩
  have M3 : Hid _ := M2.out.on k3
  clear k3 M2 e0 e1 e2 e3 e4 e5 e6
  obtain ⟨-, c0, c1, c2, c3, c4, c5, c6, -⟩ := M3.out.cells w3 (Same.refl _ _)
  have hl3 := lt_of_heap M3.out.one
  go_wp2_with fail
  refine Calls.mono (HP1.out _) ?_
  rintro e w4 ⟨rfl, k4⟩
  have M4 : Hid _ := M3.out.on k4
  clear k4 M3 c0 c1 c2 c3 c4 c5 c6
  go_wp2_with fail
  refine Calls.mono (HV1.out _) ?_
  rintro e w5 ⟨rfl, k5⟩
  have M5 : Hid _ := M4.out.on k5
  clear k5 M4
  go_wp2_with fail
  go_ret
  exact ⟨rfl, M5.out.kept⟩
set_option maxRecDepth 100000 in
set_option maxHeartbeats 800000 in
theorem keysB2 (a b : RwM) (ha : rightR a) (hb : ¬ rightR b) (w : World) : Calls Try.prog 3 #[.int .i64 2, rowV a, rowV b] w fun e w' => e = .returned (.bool true) ∧ Kept w w' := by
  have H0 : Hid (∀ W, _) := anchor9_any
  have HM : Hid _ := bx2_new w a b
  have HP1 : Hid (∀ W, _) := fun W => plain_any a W
  have HV1 : Hid (∀ W, _) := fun W => validR9_any a W
  rw [decide_eq_true ha] at HV1
  have HP2 : Hid (∀ W, _) := fun W => plain_any b W
  have HV2 : Hid (∀ W, _) := fun W => validR9_any b W
  have H1 : Hid (∀ W, _) := fun W => key_ok W 2 (.inr rfl) a ha
  have HR1 : Hid (∀ W, _) := fun W => rkey_any W 2 (.inr rfl) a ha
  rw [decide_eq_false hb] at HV2
  have H2 : Hid (∀ W, _) := fun W => key_row W 2 (.inr rfl) b hb
  obtain ⟨K1, eK⟩ : ∃ K, K = key9 2 a := ⟨_, rfl⟩
  rw [← eK] at H1 HR1
  obtain ⟨n, en⟩ : ∃ n, n = K1.length := ⟨_, rfl⟩
  have hn16 : n ≤ 16 := by rw [en, eK]; exact (key_len (.inr rfl) a b).2
  have EN : Hid _ := en
  have HS : Hid (∀ (W : World) (x y : Option Addr) (cx cy : Nat), BytesAt W x K1 → BytesAt W y K1 → Calls Try.prog 8 #[.slice x n cx, .slice y n cy] W fun e w' => e = .returned (.bool true) ∧ w' = W) := fun W x y cx cy hx hy => by
    have := same_true W x y cx cy K1 hx hy (by rw [← en]; omega)
    rw [← en] at this
    exact this
  clear ha hb eK en
  obtain ⟨kind, time, seq, index, frm, til, body⟩ := a
  obtain ⟨kind', time', seq', index', frm', til', body'⟩ := b
  unfold rowV at *
  simp only at *
  go_enter Try.func3, Try.ntmps3
  go_wp2_with fail
  refine Calls.mono (H0.out _) ?_
  rintro e w1 ⟨rfl, k1⟩
  have M1 : Hid _ := HM.out.on k1
  clear k1 HM H0
  obtain ⟨-, c0, c1, c2, c3, c4, c5, c6, -⟩ := M1.out.cells w1 (Same.refl _ _)
  have hl1 := lt_of_heap M1.out.one
  go_wp2_with fail
  refine Calls.mono (H1.out _) ?_
  rintro e w2 ⟨v2, rfl, o2, k2⟩
  obtain ⟨a2, cp2, rfl, d2, -⟩ := OwnB.bytes o2
  rw [← EN.out]
  have M2 : Hid _ := M1.out.on k2
  have D2 : Hid _ := d2
  clear k2 M1 o2 d2 c0 c1 c2 c3 c4 c5 c6
  obtain ⟨-, -, -, -, -, -, -, -, e0, e1, e2, e3, e4, e5, e6⟩ := M2.out.cells w2 (Same.refl _ _)
  have hl2 := lt_of_heap M2.out.two
  go_wp2_with fail
  refine Calls.mono (H2.out _) ?_
  rintro e w3 ⟨rfl, k3⟩
  have M3 : Hid _ := M2.out.on k3
  have D3 : Hid _ := BytesAt.kept D2.out k3 (fun _ _ h => h)
  clear k3 M2 D2 e0 e1 e2 e3 e4 e5 e6
  obtain ⟨-, c0, c1, c2, c3, c4, c5, c6, -⟩ := M3.out.cells w3 (Same.refl _ _)
  have hl3 := lt_of_heap M3.out.one
  go_wp2_with fail
  refine Calls.mono (HP1.out _) ?_
  rintro e w4 ⟨rfl, k4⟩
  have M4 : Hid _ := M3.out.on k4
  have D4 : Hid _ := BytesAt.kept D3.out k4 (fun _ _ h => h)
  clear k4 M3 D3 c0 c1 c2 c3 c4 c5 c6
  go_wp2_with fail
  refine Calls.mono (HV1.out _) ?_
  rintro e w5 ⟨rfl, k5⟩
  have M5 : Hid _ := M4.out.on k5
  have D5 : Hid _ := BytesAt.kept D4.out k5 (fun _ _ h => h)
  clear k5 M4 D4
  obtain ⟨-, c0, c1, c2, c3, c4, c5, c6, -⟩ := M5.out.cells w5 (Same.refl _ _)
  have hl5 := lt_of_heap M5.out.one
  go_wp2_with fail
  refine Calls.mono (HP1.out _) ?_
  rintro e w6 ⟨rfl, k6⟩
  have M6 : Hid _ := M5.out.on k6
  have D6 : Hid _ := BytesAt.kept D5.out k6 (fun _ _ h => h)
  clear k6 M5 D5 c0 c1 c2 c3 c4 c5 c6
  go_wp2_with fail
  refine Calls.mono (HR1.out _) ?_
  rintro e w7 ⟨v7, rfl, o7, k7⟩
  obtain ⟨a7, cp7, rfl, d7, -⟩ := OwnB.bytes o7
  rw [← EN.out]
  have M7 : Hid _ := M6.out.on k7
  have D7 : Hid _ := BytesAt.kept D6.out k7 (fun _ _ h => h)
  have R7 : Hid _ := d7
  clear k7 M6 D6 o7 d7
  go_wp2_with fail
  refine Calls.mono (HS.out _ _ _ _ _ D7.out R7.out) ?_
  rintro e w8 ⟨rfl, ew⟩
  rw [← ew] at M7 D7
  clear ew R7
  obtain ⟨-, -, -, -, -, -, -, -, e0, e1, e2, e3, e4, e5, e6⟩ := M7.out.cells w8 (Same.refl _ _)
  have hl8 := lt_of_heap M7.out.two
  go_wp2_with fail
  refine Calls.mono (HP2.out _) ?_
  rintro e w9 ⟨rfl, k9⟩
  have M9 : Hid _ := M7.out.on k9
  have D9 : Hid _ := BytesAt.kept D7.out k9 (fun _ _ h => h)
  clear k9 M7 D7 e0 e1 e2 e3 e4 e5 e6
  go_wp2_with fail
  refine Calls.mono (HV2.out _) ?_
  rintro e wa ⟨rfl, ka⟩
  have MA : Hid _ := M9.out.on ka
  have DA : Hid _ := BytesAt.kept D9.out ka (fun _ _ h => h)
  clear ka M9 D9
  go_wp2_with fail
  go_ret
  exact ⟨rfl, MA.out.kept⟩
set_option maxRecDepth 100000 in
set_option maxHeartbeats 800000 in
theorem keysC2 (a b : RwM) (ha : rightR a) (hb : rightR b) (w : World) : Calls Try.prog 3 #[.int .i64 2, rowV a, rowV b] w fun e w' => e = .returned (.bool true) ∧ Kept w w' := by
  have H0 : Hid (∀ W, _) := anchor9_any
  have HM : Hid _ := bx2_new w a b
  have HP1 : Hid (∀ W, _) := fun W => plain_any a W
  have HV1 : Hid (∀ W, _) := fun W => validR9_any a W
  rw [decide_eq_true ha] at HV1
  have HP2 : Hid (∀ W, _) := fun W => plain_any b W
  have HV2 : Hid (∀ W, _) := fun W => validR9_any b W
  have H1 : Hid (∀ W, _) := fun W => key_ok W 2 (.inr rfl) a ha
  have HR1 : Hid (∀ W, _) := fun W => rkey_any W 2 (.inr rfl) a ha
  rw [decide_eq_true hb] at HV2
  have H2 : Hid (∀ W, _) := fun W => key_ok W 2 (.inr rfl) b hb
  have HC : Hid (∀ W, _) := fun W => compare_any 2 a b W
  have HLX : Hid _ := lex_key (.inr rfl) ha hb
  have hlen := (key_len (.inr rfl) a b).1
  obtain ⟨K1, eK⟩ : ∃ K, K = key9 2 a := ⟨_, rfl⟩
  rw [← eK] at H1 HR1
  obtain ⟨n, en⟩ : ∃ n, n = K1.length := ⟨_, rfl⟩
  have hn16 : n ≤ 16 := by rw [en, eK]; exact (key_len (.inr rfl) a b).2
  have EN : Hid _ := en
  have HS : Hid (∀ (W : World) (x y : Option Addr) (cx cy : Nat), BytesAt W x K1 → BytesAt W y K1 → Calls Try.prog 8 #[.slice x n cx, .slice y n cy] W fun e w' => e = .returned (.bool true) ∧ w' = W) := fun W x y cx cy hx hy => by
    have := same_true W x y cx cy K1 hx hy (by rw [← en]; omega)
    rw [← en] at this
    exact this
  obtain ⟨K2, eK2⟩ : ∃ K, K = key9 2 b := ⟨_, rfl⟩
  rw [← eK2] at H2
  rw [← eK, ← eK2] at HLX
  have EN2 : Hid (n = K2.length) := by show n = _; rw [en, eK, eK2]; exact hlen
  obtain ⟨z, ez⟩ : ∃ z, z = comp 2 a b := ⟨_, rfl⟩
  rw [← ez] at HC HLX
  clear ha hb eK en eK2 ez hlen
  obtain ⟨kind, time, seq, index, frm, til, body⟩ := a
  obtain ⟨kind', time', seq', index', frm', til', body'⟩ := b
  unfold rowV at *
  simp only at *
  go_enter Try.func3, Try.ntmps3
  go_wp2_with fail
  refine Calls.mono (H0.out _) ?_
  rintro e w1 ⟨rfl, k1⟩
  have M1 : Hid _ := HM.out.on k1
  clear k1 HM H0
  obtain ⟨-, c0, c1, c2, c3, c4, c5, c6, -⟩ := M1.out.cells w1 (Same.refl _ _)
  have hl1 := lt_of_heap M1.out.one
  go_wp2_with fail
  refine Calls.mono (H1.out _) ?_
  rintro e w2 ⟨v2, rfl, o2, k2⟩
  obtain ⟨a2, cp2, rfl, d2, -⟩ := OwnB.bytes o2
  rw [← EN.out]
  have M2 : Hid _ := M1.out.on k2
  have D2 : Hid _ := d2
  clear k2 M1 o2 d2 c0 c1 c2 c3 c4 c5 c6
  obtain ⟨-, -, -, -, -, -, -, -, e0, e1, e2, e3, e4, e5, e6⟩ := M2.out.cells w2 (Same.refl _ _)
  have hl2 := lt_of_heap M2.out.two
  go_wp2_with fail
  refine Calls.mono (H2.out _) ?_
  rintro e w3 ⟨v3, rfl, o3, k3⟩
  obtain ⟨a3, cp3, rfl, d3, -⟩ := OwnB.bytes o3
  rw [← EN2.out]
  have M3 : Hid _ := M2.out.on k3
  have D3 : Hid _ := BytesAt.kept D2.out k3 (fun _ _ h => h)
  have F3 : Hid _ := d3
  clear k3 M2 D2 o3 d3 e0 e1 e2 e3 e4 e5 e6
  obtain ⟨-, c0, c1, c2, c3, c4, c5, c6, -⟩ := M3.out.cells w3 (Same.refl _ _)
  have hl3 := lt_of_heap M3.out.one
  go_wp2_with fail
  refine Calls.mono (HP1.out _) ?_
  rintro e w4 ⟨rfl, k4⟩
  have M4 : Hid _ := M3.out.on k4
  have D4 : Hid _ := BytesAt.kept D3.out k4 (fun _ _ h => h)
  have F4 : Hid _ := BytesAt.kept F3.out k4 (fun _ _ h => h)
  clear k4 M3 D3 c0 c1 c2 c3 c4 c5 c6
  go_wp2_with fail
  refine Calls.mono (HV1.out _) ?_
  rintro e w5 ⟨rfl, k5⟩
  have M5 : Hid _ := M4.out.on k5
  have D5 : Hid _ := BytesAt.kept D4.out k5 (fun _ _ h => h)
  have F5 : Hid _ := BytesAt.kept F4.out k5 (fun _ _ h => h)
  clear k5 M4 D4
  obtain ⟨-, c0, c1, c2, c3, c4, c5, c6, -⟩ := M5.out.cells w5 (Same.refl _ _)
  have hl5 := lt_of_heap M5.out.one
  go_wp2_with fail
  refine Calls.mono (HP1.out _) ?_
  rintro e w6 ⟨rfl, k6⟩
  have M6 : Hid _ := M5.out.on k6
  have D6 : Hid _ := BytesAt.kept D5.out k6 (fun _ _ h => h)
  have F6 : Hid _ := BytesAt.kept F5.out k6 (fun _ _ h => h)
  clear k6 M5 D5 c0 c1 c2 c3 c4 c5 c6
  go_wp2_with fail
  refine Calls.mono (HR1.out _) ?_
  rintro e w7 ⟨v7, rfl, o7, k7⟩
  obtain ⟨a7, cp7, rfl, d7, -⟩ := OwnB.bytes o7
  rw [← EN.out]
  have M7 : Hid _ := M6.out.on k7
  have D7 : Hid _ := BytesAt.kept D6.out k7 (fun _ _ h => h)
  have R7 : Hid _ := d7
  have F7 : Hid _ := BytesAt.kept F6.out k7 (fun _ _ h => h)
  clear k7 M6 D6 o7 d7
  go_wp2_with fail
  refine Calls.mono (HS.out _ _ _ _ _ D7.out R7.out) ?_
  rintro e w8 ⟨rfl, ew⟩
  rw [← ew] at M7 D7
  rw [← ew] at F7
  clear ew R7
  obtain ⟨-, -, -, -, -, -, -, -, e0, e1, e2, e3, e4, e5, e6⟩ := M7.out.cells w8 (Same.refl _ _)
  have hl8 := lt_of_heap M7.out.two
  go_wp2_with fail
  refine Calls.mono (HP2.out _) ?_
  rintro e w9 ⟨rfl, k9⟩
  have M9 : Hid _ := M7.out.on k9
  have D9 : Hid _ := BytesAt.kept D7.out k9 (fun _ _ h => h)
  have F9 : Hid _ := BytesAt.kept F7.out k9 (fun _ _ h => h)
  clear k9 M7 D7 e0 e1 e2 e3 e4 e5 e6
  go_wp2_with fail
  refine Calls.mono (HV2.out _) ?_
  rintro e wa ⟨rfl, ka⟩
  have MA : Hid _ := M9.out.on ka
  have DA : Hid _ := BytesAt.kept D9.out ka (fun _ _ h => h)
  have FA : Hid _ := BytesAt.kept F9.out ka (fun _ _ h => h)
  clear ka M9 D9
  go_wp2_with fail
  go_loopw [94] (fun i wr => ∃ j : Nat, i = .int .i64 j ∧ j ≤ n ∧ wr = wa ∧ lex K1 K2 = lex (K1.drop j) (K2.drop j)) (fun i _ => n - (intOf i).toNat)
  case atStart => exact ⟨0, rfl, Nat.zero_le _, rfl, rfl⟩
  case round =>
    obtain ⟨j, rfl, hj, rfl, hlx⟩ := hrel
    by_cases hlt : j < n
    · have t1 : decide ((j : Int) < (n : Int)) = true := decide_eq_true (by omega)
      have hlt2 : (j : Int) < (n : Int) := by omega
      obtain ⟨x, hx⟩ : ∃ x, K1[j]? = some x := ⟨_, List.getElem?_eq_getElem (by rw [← EN.out]; exact hlt)⟩
      obtain ⟨y, hy⟩ : ∃ y, K2[j]? = some y := ⟨_, List.getElem?_eq_getElem (by rw [← EN2.out]; exact hlt)⟩
      rw [lex_step hx hy] at hlx
      obtain ⟨b1, o1, rfl, -, q1⟩ := DA.out j x hx
      obtain ⟨b2, o2, rfl, -, q2⟩ := FA.out j y hy
      clear hx hy
      rcases Int.lt_trichotomy x y with hxy | rfl | hxy
      · rw [if_pos hxy] at hlx
        obtain rfl : z = -1 := by rw [← HLX.out]; exact hlx
        have t2 : (x != y) = true := by simp; omega
        have t3 : decide (x < y) = true := decide_eq_true hxy
        obtain ⟨-, c0, c1, c2, c3, c4, c5, c6, e0, e1, e2, e3, e4, e5, e6⟩ := MA.out.cells wr (Same.refl _ _)
        have hla := lt_of_heap MA.out.two
        clear hlx
        go_wp2_with fail
        refine Calls.mono (HC.out _) ?_
        rintro e wb ⟨rfl, kb⟩
        have KB : Hid _ := MA.out.kept.trans' kb
        clear kb
        go_wp2_with fail
        go_ret
        exact ⟨rfl, KB.out⟩
      · rw [if_neg (by omega), if_neg (by omega)] at hlx
        have HX2 : Hid _ := hlx
        have t2 : (x != x) = false := by simp
        clear hlx
        go_wp2_with fail
        go_roundw
        case rel => exact ⟨j + 1, by rw [Int.natCast_add]; rfl, hlt, trivial, HX2.out⟩
        case measure => simp only [intOf]; omega
      · rw [if_neg (by omega), if_pos hxy] at hlx
        obtain rfl : z = 1 := by rw [← HLX.out]; exact hlx
        have t2 : (x != y) = true := by simp; omega
        have t3 : decide (x < y) = false := decide_eq_false (by omega)
        obtain ⟨-, c0, c1, c2, c3, c4, c5, c6, e0, e1, e2, e3, e4, e5, e6⟩ := MA.out.cells wr (Same.refl _ _)
        have hla := lt_of_heap MA.out.two
        clear hlx
        go_wp2_with fail
        refine Calls.mono (HC.out _) ?_
        rintro e wb ⟨rfl, kb⟩
        have KB : Hid _ := MA.out.kept.trans' kb
        clear kb
        go_wp2_with fail
        go_ret
        exact ⟨rfl, KB.out⟩
    · obtain rfl : j = n := by omega
      have t1 : decide ((j : Int) < (j : Int)) = false := by simp
      obtain rfl : z = 0 := by
        rw [← HLX.out, hlx, List.drop_eq_nil_of_le (by rw [← EN.out]; exact Nat.le_refl _)]
        rfl
      obtain ⟨-, c0, c1, c2, c3, c4, c5, c6, e0, e1, e2, e3, e4, e5, e6⟩ := MA.out.cells wr (Same.refl _ _)
      have hla := lt_of_heap MA.out.two
      clear hlx
      go_wp2_with fail
      refine Calls.mono (HC.out _) ?_
      rintro e wb ⟨rfl, kb⟩
      have KB : Hid _ := MA.out.kept.trans' kb
      clear kb
      go_wp2_with fail
      go_ret
      exact ⟨rfl, KB.out⟩
theorem rowsKeys_any (order : Int) (a b : RwM) (w : World) : Calls Try.prog 3 #[.int .i64 order, rowV a, rowV b] w fun e w' => e = .returned (.bool true) ∧ Kept w w' := by
  by_cases h1 : order = 1
  · subst h1
    by_cases ha : rightR a
    · by_cases hb : rightR b
      · exact keysC1 a b ha hb w
      · exact keysB1 a b ha hb w
    · exact keysA1 a b ha w
  · by_cases h2 : order = 2
    · subst h2
      by_cases ha : rightR a
      · by_cases hb : rightR b
        · exact keysC2 a b ha hb w
        · exact keysB2 a b ha hb w
      · exact keysA2 a b ha w
    · exact keys_order order h1 h2 a b w
end Go.Proofs.Ytnbmokchdnkloab
