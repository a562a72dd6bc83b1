/- What is proved: the law RowsEncodes answers true, for every row; no condition. -/
import Derived.Test.YtnbmokchdnkloaaQCmpL
import Derived.Test.YtnbmokchdnkloaaQValR
namespace Go.Proofs.Ytnbmokchdnkloaa
open Go.RowKit

/-- The document's number, behind a row of one's own. -/
theorem number_ref {base : Nat} {w : World} {v : Value} {l : List Int} (o : OwnB base w v l) (n : Nat) (hb : l.length + 8 ≤ 140737488355328) (hn : n ≤ 72057594037927935) (hbase : base ≤ w.heap.size) :
    Calls Try.prog 26 #[v, .int .i64 (n : Int)] w fun e w' => ∃ v', e = .returned v' ∧ OwnB base w' v' (l ++ form n) ∧ Same (fun k => base ≤ k) w w' := by
  have H1 : Hid _ := form_ref w n hn
  have h8 : (form n).length ≤ 8 := form_le (by decide) (by omega)
  have O : Hid _ := o
  clear o
  go_enter Try.func26, Try.ntmps26
  go_wp2_with fail
  refine Calls.mono H1.out ?_
  rintro e w1 ⟨v1, rfl, o1, k1⟩
  obtain ⟨a1, c1, rfl, d1, -, hn1, -, -⟩ := OwnB.bytes o1
  have HA : Hid (∀ ty, _) := fun ty => app_bytes (c := c1) (OwnB.kept O.out k1 (fun _ _ h => h)) d1 hn1 (by omega) (Nat.le_trans hbase k1.size) ty
  have K1 : Hid _ := k1
  clear o1 d1 hn1 k1
  go_wp2_with (at_builtin; refine wpList_app rfl (.tmp 8) (.tmp 9) 28 28 rfl _ _ rfl rfl _ HA.out ?_; intro v' w2 hR)
  go_ret
  exact ⟨v', rfl, hR.1, (Kept.to K1.out _).trans' hR.2⟩
theorem own_one9 (w : World) (x : Int) : OwnB w.heap.size (w.alloc (.cells #[.int .u8 x] 5 (0, 0))) (.slice (some ⟨w.heap.size, 0, none⟩) 1 1) [x] := own_one w x
set_option maxRecDepth 100000 in
set_option maxHeartbeats 800000 in
theorem bytes_ref (w : World) (r : RwM) (hr : rightR r) : Calls Try.prog 16 #[rowV r] w fun e w' => ∃ u, e = .returned u ∧ OwnB w.heap.size w' u (bytesR r) ∧ Kept w w' := by
  obtain ⟨kind, time, seq, index, frm, til, body⟩ := r
  obtain ⟨hk, ⟨h1, b1⟩, ⟨h2, b2⟩, ⟨h3, b3⟩, ⟨h4, b4⟩, ⟨h5, b5⟩, hbs⟩ := hr
  simp only at hk h1 b1 h2 b2 h3 b3 h4 b4 h5 b5 hbs
  obtain ⟨n1, rfl⟩ := Int.eq_ofNat_of_zero_le h1
  obtain ⟨n2, rfl⟩ := Int.eq_ofNat_of_zero_le h2
  obtain ⟨n3, rfl⟩ := Int.eq_ofNat_of_zero_le h3
  obtain ⟨n4, rfl⟩ := Int.eq_ofNat_of_zero_le h4
  obtain ⟨n5, rfl⟩ := Int.eq_ofNat_of_zero_le h5
  have hf1 : (form n1).length ≤ 8 := form_le (by decide) (by omega)
  have hf2 : (form n2).length ≤ 8 := form_le (by decide) (by omega)
  have hf3 : (form n3).length ≤ 8 := form_le (by decide) (by omega)
  have hf4 : (form n4).length ≤ 8 := form_le (by decide) (by omega)
  have hf5 : (form n5).length ≤ 8 := form_le (by decide) (by omega)
  have hf6 : (form body.size).length ≤ 8 := form_le (by decide) (by omega)
  have HT : Hid (bytesR ⟨kind, n1, n2, n3, n4, n5, body⟩ = [kind] ++ form n1 ++ form n2 ++ form n3 ++ form n4 ++ form n5 ++ (form body.size ++ nums body)) := by
    show bytesR _ = _
    simp [bytesR, encT, List.append_assoc]
  generalize bytesR ⟨kind, n1, n2, n3, n4, n5, body⟩ = T at HT ⊢
  have hk1 : 0 ≤ kind := by omega
  have hk2 : kind ≤ 255 := by omega
  have HX : Hid (∀ W, _) := fun W => text_ref W body (by omega)
  obtain ⟨T6, eT6⟩ : ∃ T6, T6 = form body.size ++ nums body := ⟨_, rfl⟩
  have hT6 : T6.length ≤ 520 := by rw [eT6, List.length_append, nums_length]; omega
  rw [← eT6] at HX HT
  clear eT6
  obtain ⟨B0, eB⟩ : ∃ B0, B0 = Obj.cells #[.int .i64 kind, .int .i64 (n1 : Int), .int .i64 (n2 : Int), .int .i64 (n3 : Int), .int .i64 (n4 : Int), .int .i64 (n5 : Int), .string body] 26 (0, 0) := ⟨_, rfl⟩
  have B0h : Hid ((w.alloc B0).heap[w.heap.size]? = some (Obj.cells #[.int .i64 kind, .int .i64 (n1 : Int), .int .i64 (n2 : Int), .int .i64 (n3 : Int), .int .i64 (n4 : Int), .int .i64 (n5 : Int), .string body] 26 (0, 0))) := by rw [← eB]; exact heap_new w _
  have O0 : Hid _ := own_one9 (w.alloc B0) kind
  rw [World.size_alloc] at O0
  have KS0 : Hid (Same (fun k => w.heap.size + 1 ≤ k) (w.alloc B0) ((w.alloc B0).alloc (.cells #[.int .u8 kind] 5 (0, 0)))) := (Same.refl _ _).alloc _
  unfold rowV
  simp only
  clear hk h1 h2 h3 h4 h5
  go_enter Try.func16, Try.ntmps16
  go_wp2_with fail
  rw [← eB]
  have HN1 : Hid _ := number_ref O0.out n1 (by simp only [List.length_cons, List.length_nil]; omega) (by omega) (by rw [World.size_alloc, World.size_alloc]; omega)
  refine Calls.mono HN1.out ?_
  rintro e w2 ⟨v1, rfl, o1, k1⟩
  have O1 : Hid _ := o1
  have KS1 : Hid (Same (fun k => w.heap.size + 1 ≤ k) (w.alloc B0) w2) := KS0.out.trans' k1
  obtain ⟨⟨c0, c1, c2, c3, c4, c5, c6⟩, -⟩ := row_obj ((KS1.out.block w.heap.size (by simp [World.size_alloc]) (by omega)).trans B0h.out)
  have hl1 : w.heap.size < w2.heap.size := Nat.lt_of_lt_of_le (by simp [World.size_alloc]) KS1.out.size
  clear o1 k1 HN1 O0 KS0
  go_wp2_with fail
  have HN2 : Hid _ := number_ref O1.out n2 (by simp only [List.length_append, List.length_cons, List.length_nil]; omega) (by omega) (by have := KS1.out.size; rw [World.size_alloc] at this; exact this)
  refine Calls.mono HN2.out ?_
  rintro e w3 ⟨v2, rfl, o2, k2⟩
  have O2 : Hid _ := o2
  have KS2 : Hid (Same (fun k => w.heap.size + 1 ≤ k) (w.alloc B0) w3) := KS1.out.trans' k2
  clear c0 c1 c2 c3 c4 c5 c6
  obtain ⟨⟨c0, c1, c2, c3, c4, c5, c6⟩, -⟩ := row_obj ((KS2.out.block w.heap.size (by simp [World.size_alloc]) (by omega)).trans B0h.out)
  have hl2 : w.heap.size < w3.heap.size := Nat.lt_of_lt_of_le (by simp [World.size_alloc]) KS2.out.size
  clear o2 k2 HN2 O1 KS1
  go_wp2_with fail
  have HN3 : Hid _ := number_ref O2.out n3 (by simp only [List.length_append, List.length_cons, List.length_nil]; omega) (by omega) (by have := KS2.out.size; rw [World.size_alloc] at this; exact this)
  refine Calls.mono HN3.out ?_
  rintro e w4 ⟨v3, rfl, o3, k3⟩
  have O3 : Hid _ := o3
  have KS3 : Hid (Same (fun k => w.heap.size + 1 ≤ k) (w.alloc B0) w4) := KS2.out.trans' k3
  clear c0 c1 c2 c3 c4 c5 c6
  obtain ⟨⟨c0, c1, c2, c3, c4, c5, c6⟩, -⟩ := row_obj ((KS3.out.block w.heap.size (by simp [World.size_alloc]) (by omega)).trans B0h.out)
  have hl3 : w.heap.size < w4.heap.size := Nat.lt_of_lt_of_le (by simp [World.size_alloc]) KS3.out.size
  clear o3 k3 HN3 O2 KS2
  go_wp2_with fail
  have HN4 : Hid _ := number_ref O3.out n4 (by simp only [List.length_append, List.length_cons, List.length_nil]; omega) (by omega) (by have := KS3.out.size; rw [World.size_alloc] at this; exact this)
  refine Calls.mono HN4.out ?_
  rintro e w5 ⟨v4, rfl, o4, k4⟩
  have O4 : Hid _ := o4
  have KS4 : Hid (Same (fun k => w.heap.size + 1 ≤ k) (w.alloc B0) w5) := KS3.out.trans' k4
  clear c0 c1 c2 c3 c4 c5 c6
  obtain ⟨⟨c0, c1, c2, c3, c4, c5, c6⟩, -⟩ := row_obj ((KS4.out.block w.heap.size (by simp [World.size_alloc]) (by omega)).trans B0h.out)
  have hl4 : w.heap.size < w5.heap.size := Nat.lt_of_lt_of_le (by simp [World.size_alloc]) KS4.out.size
  clear o4 k4 HN4 O3 KS3
  go_wp2_with fail
  have HN5 : Hid _ := number_ref O4.out n5 (by simp only [List.length_append, List.length_cons, List.length_nil]; omega) (by omega) (by have := KS4.out.size; rw [World.size_alloc] at this; exact this)
  refine Calls.mono HN5.out ?_
  rintro e w6 ⟨v5, rfl, o5, k5⟩
  have O5 : Hid _ := o5
  have KS5 : Hid (Same (fun k => w.heap.size + 1 ≤ k) (w.alloc B0) w6) := KS4.out.trans' k5
  clear c0 c1 c2 c3 c4 c5 c6
  obtain ⟨⟨c0, c1, c2, c3, c4, c5, c6⟩, -⟩ := row_obj ((KS5.out.block w.heap.size (by simp [World.size_alloc]) (by omega)).trans B0h.out)
  have hl5 : w.heap.size < w6.heap.size := Nat.lt_of_lt_of_le (by simp [World.size_alloc]) KS5.out.size
  clear o5 k5 HN5 O4 KS4
  go_wp2_with fail
  refine Calls.mono (HX.out _) ?_
  rintro e w7 ⟨v6, rfl, o6, k6⟩
  obtain ⟨a6, cp6, rfl, d6, -, hn6, -, -⟩ := OwnB.bytes o6
  clear c0 c1 c2 c3 c4 c5 c6
  have HA : Hid (∀ ty, _) := fun ty => app_bytes (c := cp6) (OwnB.kept O5.out k6 (fun _ _ h => h)) d6 hn6 (by simp only [List.length_append, List.length_cons, List.length_nil]; omega) (by have h5' := KS5.out.size; have h6' := k6.size; rw [World.size_alloc] at h5'; omega) ty
  have KS6 : Hid (Same (fun k => w.heap.size + 1 ≤ k) (w.alloc B0) w7) := KS5.out.trans' (Kept.to k6 _)
  clear o6 d6 hn6 k6
  go_wp2_with (at_builtin; refine wpList_app rfl (.tmp 32) (.tmp 33) 28 28 rfl _ _ rfl rfl _ HA.out ?_; intro v' w8 hR)
  go_ret
  refine ⟨v', rfl, ?_, ?_⟩
  · rw [HT.out]
    exact OwnB.lower hR.1 (Nat.le_succ _)
  · exact ((Same.refl _ w).alloc B0).trans (KS6.out.trans' hR.2) (fun i hi e => by omega)
/-- A row in a box. -/
structure Bx1 (w W : World) (h : Nat) (a : RwM) : Prop where
  kept : Kept w W
  one : W.heap[h]? = some (.cells #[.int .i64 a.kind, .int .i64 a.time, .int .i64 a.seq, .int .i64 a.index, .int .i64 a.frm, .int .i64 a.til, .string a.body] 23 (0, 0))
theorem Bx1.on {w W W' : World} {h : Nat} {a : RwM} (m : Bx1 w W h a) (k : Kept W W') : Bx1 w W' h a :=
  ⟨m.kept.trans' k, (k.block _ (lt_of_heap m.one) (fun e => e)).trans m.one⟩
theorem bx1_new (w : World) (a : RwM) : Bx1 w (w.alloc (.cells #[.int .i64 a.kind, .int .i64 a.time, .int .i64 a.seq, .int .i64 a.index, .int .i64 a.frm, .int .i64 a.til, .string a.body] 23 (0, 0))) w.heap.size a := ⟨(Same.refl _ w).alloc _, heap_new w _⟩
set_option maxRecDepth 100000 in
set_option maxHeartbeats 400000 in
theorem encodes_no (r : RwM) (w : World) (hr : ¬ rightR r) : Calls Try.prog 3 #[rowV r] w fun e w' => e = .returned (.bool true) ∧ Kept w w' := by
  have H0 : Hid (∀ W, _) := anchor9_any
  have H1 : Hid (∀ W, _) := fun W => plain_any r W
  have H2 : Hid (∀ W, _) := fun W => validR9_any r W
  have H3 : Hid (∀ W, _) := fun W => encode9_no W r hr
  have H4 : Hid (∀ W, _) := fun W => valid9_any r W
  have H5 : Hid (∀ W, _) := fun W => size9_no W r hr
  rw [decide_eq_false hr] at H2 H4
  have HM : Hid _ := bx1_new w r
  obtain ⟨kind, time, seq, index, frm, til, body⟩ := r
  unfold rowV at *
  simp only at *
  clear hr
  go_enter Try.func3, Try.ntmps3
  go_wp2_with fail
  refine Calls.mono (H0.out _) ?_
  rintro e w1 ⟨rfl, k1⟩
  have M1 : Hid _ := HM.out.on k1
  clear k1 HM H0
  obtain ⟨⟨c0, c1, c2, c3, c4, c5, c6⟩, -⟩ := row_obj M1.out.one
  have hl1 := lt_of_heap M1.out.one
  go_wp2_with fail
  refine Calls.mono (H1.out _) ?_
  rintro e w2 ⟨rfl, k2⟩
  have M2 : Hid _ := M1.out.on k2
  clear k2 M1 c0 c1 c2 c3 c4 c5 c6
  go_wp2_with fail
  refine Calls.mono (H2.out _) ?_
  rintro e w3 ⟨rfl, k3⟩
  have M3 : Hid _ := M2.out.on k3
  clear k3 M2
  obtain ⟨⟨c0, c1, c2, c3, c4, c5, c6⟩, -⟩ := row_obj M3.out.one
  have hl3 := lt_of_heap M3.out.one
  go_wp2_with fail
  refine Calls.mono (H3.out _) ?_
  rintro e w4 ⟨rfl, k4⟩
  have M4 : Hid _ := M3.out.on k4
  clear k4 M3 c0 c1 c2 c3 c4 c5 c6
  obtain ⟨⟨c0, c1, c2, c3, c4, c5, c6⟩, -⟩ := row_obj M4.out.one
  have hl4 := lt_of_heap M4.out.one
  go_wp2_with fail
  refine Calls.mono (H4.out _) ?_
  rintro e w5 ⟨rfl, k5⟩
  have M5 : Hid _ := M4.out.on k5
  clear k5 M4 c0 c1 c2 c3 c4 c5 c6
  obtain ⟨⟨c0, c1, c2, c3, c4, c5, c6⟩, -⟩ := row_obj M5.out.one
  have hl5 := lt_of_heap M5.out.one
  go_wp2_with fail
  refine Calls.mono (H5.out _) ?_
  rintro e w6 ⟨rfl, k6⟩
  have M6 : Hid _ := M5.out.on k6
  clear k6 M5 c0 c1 c2 c3 c4 c5 c6
  go_wp2_with fail
  go_ret
  exact ⟨rfl, M6.out.kept⟩
set_option maxRecDepth 100000 in
set_option maxHeartbeats 400000 in
theorem encodes_yes (r : RwM) (w : World) (hr : rightR r) : Calls Try.prog 3 #[rowV r] w fun e w' => e = .returned (.bool true) ∧ Kept w w' := by
  have H0 : Hid (∀ W, _) := anchor9_any
  have H1 : Hid (∀ W, _) := fun W => plain_any r W
  have H2 : Hid (∀ W, _) := fun W => validR9_any r W
  have H3 : Hid (∀ W, _) := fun W => encode9_ok W r hr
  have H4 : Hid (∀ W, _) := fun W => valid9_any r W
  have H5 : Hid (∀ W, _) := fun W => size9_ok W r hr
  have H6 : Hid (∀ W, _) := fun W => bytes_ref W r hr
  rw [decide_eq_true hr] at H2 H4
  have HM : Hid _ := bx1_new w r
  have HL : Hid _ := (bytesR_len hr).2
  generalize bytesR r = T at H3 H5 H6 HL
  have H7 : Hid (∀ (W : World) (a b : Option Addr) (ca cb : Nat), BytesAt W a T → BytesAt W b T → _) := fun W a b ca cb ha hb => same_true W a b ca cb T ha hb (by have := HL.out; omega)
  obtain ⟨n, en⟩ : ∃ n, n = T.length := ⟨_, rfl⟩
  rw [← en] at H5 H7
  have EN : Hid _ := en
  obtain ⟨kind, time, seq, index, frm, til, body⟩ := r
  unfold rowV at *
  simp only at *
  clear hr en
  go_enter Try.func3, Try.ntmps3
  go_wp2_with fail
  refine Calls.mono (H0.out _) ?_
  rintro e w1 ⟨rfl, k1⟩
  have M1 : Hid _ := HM.out.on k1
  clear k1 HM H0
  obtain ⟨⟨c0, c1, c2, c3, c4, c5, c6⟩, -⟩ := row_obj M1.out.one
  have hl1 := lt_of_heap M1.out.one
  go_wp2_with fail
  refine Calls.mono (H1.out _) ?_
  rintro e w2 ⟨rfl, k2⟩
  have M2 : Hid _ := M1.out.on k2
  clear k2 M1 c0 c1 c2 c3 c4 c5 c6
  go_wp2_with fail
  refine Calls.mono (H2.out _) ?_
  rintro e w3 ⟨rfl, k3⟩
  have M3 : Hid _ := M2.out.on k3
  clear k3 M2
  obtain ⟨⟨c0, c1, c2, c3, c4, c5, c6⟩, -⟩ := row_obj M3.out.one
  have hl3 := lt_of_heap M3.out.one
  go_wp2_with fail
  refine Calls.mono (H3.out _) ?_
  rintro e w4 ⟨v4, rfl, o4, k4⟩
  obtain ⟨a4, cp4, rfl, d4, -, -, -, -⟩ := OwnB.bytes o4
  have M4 : Hid _ := M3.out.on k4
  have D4 : Hid _ := d4
  rw [← EN.out]
  clear k4 M3 c0 c1 c2 c3 c4 c5 c6 o4 d4
  obtain ⟨⟨c0, c1, c2, c3, c4, c5, c6⟩, -⟩ := row_obj M4.out.one
  have hl4 := lt_of_heap M4.out.one
  go_wp2_with fail
  refine Calls.mono (H4.out _) ?_
  rintro e w5 ⟨rfl, k5⟩
  have M5 : Hid _ := M4.out.on k5
  have D5 : Hid _ := BytesAt.kept D4.out k5 (fun _ _ h => h)
  clear k5 M4 c0 c1 c2 c3 c4 c5 c6 D4
  obtain ⟨⟨c0, c1, c2, c3, c4, c5, c6⟩, -⟩ := row_obj M5.out.one
  have hl5 := lt_of_heap M5.out.one
  go_wp2_with fail
  refine Calls.mono (H5.out _) ?_
  rintro e w6 ⟨rfl, k6⟩
  have M6 : Hid _ := M5.out.on k6
  have D6 : Hid _ := BytesAt.kept D5.out k6 (fun _ _ h => h)
  clear k6 M5 c0 c1 c2 c3 c4 c5 c6 D5
  obtain ⟨⟨c0, c1, c2, c3, c4, c5, c6⟩, -⟩ := row_obj M6.out.one
  have hl6 := lt_of_heap M6.out.one
  go_wp2_with fail
  refine Calls.mono (H1.out _) ?_
  rintro e w7 ⟨rfl, k7⟩
  have M7 : Hid _ := M6.out.on k7
  have D7 : Hid _ := BytesAt.kept D6.out k7 (fun _ _ h => h)
  clear k7 M6 c0 c1 c2 c3 c4 c5 c6 D6
  go_wp2_with fail
  refine Calls.mono (H6.out _) ?_
  rintro e w8 ⟨v8, rfl, o8, k8⟩
  obtain ⟨a8, cp8, rfl, d8, -, -, -, -⟩ := OwnB.bytes o8
  have M8 : Hid _ := M7.out.on k8
  have D8 : Hid _ := BytesAt.kept D7.out k8 (fun _ _ h => h)
  have E8 : Hid _ := d8
  rw [← EN.out]
  clear k8 M7 D7 o8 d8
  go_wp2_with fail
  refine Calls.mono (H7.out _ _ _ _ _ D8.out E8.out) ?_
  rintro e w9 ⟨rfl, ew⟩
  rw [← ew] at M8
  clear ew
  go_wp2_with fail
  go_ret
  exact ⟨rfl, M8.out.kept⟩
end Go.Proofs.Ytnbmokchdnkloaa
