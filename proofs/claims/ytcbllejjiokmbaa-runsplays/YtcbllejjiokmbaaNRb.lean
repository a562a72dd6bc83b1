/- What is proved: the document's bytes of a right row; no condition. -/
import Derived.Test.YtcbllejjiokmbaaNRef
import Derived.Test.YtcbllejjiokmbaaQValR
namespace Go.Proofs.Ytcbllejjiokmbaa
open Go.RowKit

/-- The document's number, behind a row of one's own. -/
theorem number_ref {base : Nat} {w : World} {v : Value} {l : List Int} (o : OwnB base w v l) (n : Nat) (hb : l.length + 8 ≤ 140737488355328) (hn : n ≤ 72057594037927935) (hbase : base ≤ w.heap.size) :
    Calls Try.prog 60 #[v, .int .i64 (n : Int)] w fun e w' => ∃ v', e = .returned v' ∧ OwnB base w' v' (l ++ form n) ∧ Same (fun k => base ≤ k) w w' := by
  have H1 : Hid _ := form_ref w n hn
  have h8 : (form n).length ≤ 8 := form_le (by decide) (by omega)
  have O : Hid _ := o
  clear o
  go_enter Try.func60, Try.ntmps60
  go_wp2_with fail
  refine Calls.mono H1.out ?_
  rintro e w1 ⟨v1, rfl, o1, k1⟩
  obtain ⟨a1, c1, rfl, d1, -, hn1, -, -⟩ := OwnB.bytes o1
  have HA : Hid (∀ ty, _) := fun ty => app_bytes (c := c1) (OwnB.kept O.out k1 (fun _ _ h => h)) d1 hn1 (by omega) (Nat.le_trans hbase k1.size) ty
  have K1 : Hid _ := k1
  clear o1 d1 hn1 k1
  go_wp2_with (at_builtin; refine wpList_app rfl (.tmp 8) (.tmp 9) 23 23 rfl _ _ rfl rfl _ HA.out ?_; intro v' w2 hR)
  go_ret
  exact ⟨v', rfl, hR.1, (Kept.to K1.out _).trans' hR.2⟩
theorem own_one9 (w : World) (x : Int) : OwnB w.heap.size (w.alloc (.cells #[.int .u8 x] 5 (0, 0))) (.slice (some ⟨w.heap.size, 0, none⟩) 1 1) [x] := own_one w x
set_option maxRecDepth 100000 in
set_option maxHeartbeats 800000 in
theorem bytes_ref (w : World) (r : RwM) (hr : rightR r) : Calls Try.prog 46 #[rowV r] w fun e w' => ∃ u, e = .returned u ∧ OwnB w.heap.size w' u (bytesR r) ∧ Kept w w' := by
  obtain ⟨kind, time, seq, index, frm, til, body⟩ := r
  obtain ⟨hk, ⟨h1, b1⟩, ⟨h2, b2⟩, ⟨h3, b3⟩, ⟨h4, b4⟩, ⟨h5, b5⟩, hbs⟩ := hr
  simp only at hk h1 b1 h2 b2 h3 b3 h4 b4 h5 b5 hbs
  obtain ⟨n1, rfl⟩ := Int.eq_ofNat_of_zero_le h1
  obtain ⟨n2, rfl⟩ := Int.eq_ofNat_of_zero_le h2
  obtain ⟨n3, rfl⟩ := Int.eq_ofNat_of_zero_le h3
  obtain ⟨n4, rfl⟩ := Int.eq_ofNat_of_zero_le h4
  obtain ⟨n5, rfl⟩ := Int.eq_ofNat_of_zero_le h5
  have hf1 : (form n1).length ≤ 8 := form_le (by decide) (by omega)
  have hf2 : (form n2).length ≤ 8 := form_le (by decide) (by omega)
  have hf3 : (form n3).length ≤ 8 := form_le (by decide) (by omega)
  have hf4 : (form n4).length ≤ 8 := form_le (by decide) (by omega)
  have hf5 : (form n5).length ≤ 8 := form_le (by decide) (by omega)
  have hf6 : (form body.size).length ≤ 8 := form_le (by decide) (by omega)
  have HT : Hid (bytesR ⟨kind, n1, n2, n3, n4, n5, body⟩ = [kind] ++ form n1 ++ form n2 ++ form n3 ++ form n4 ++ form n5 ++ (form body.size ++ nums body)) := by
    show bytesR _ = _
    simp [bytesR, encT, List.append_assoc]
  generalize bytesR ⟨kind, n1, n2, n3, n4, n5, body⟩ = T at HT ⊢
  have hk1 : 0 ≤ kind := by omega
  have hk2 : kind ≤ 255 := by omega
  have HX : Hid (∀ W, _) := fun W => text_ref W body (by omega)
  obtain ⟨T6, eT6⟩ : ∃ T6, T6 = form body.size ++ nums body := ⟨_, rfl⟩
  have hT6 : T6.length ≤ 520 := by rw [eT6, List.length_append, nums_length]; omega
  rw [← eT6] at HX HT
  clear eT6
  obtain ⟨B0, eB⟩ : ∃ B0, B0 = Obj.cells #[.int .i64 kind, .int .i64 (n1 : Int), .int .i64 (n2 : Int), .int .i64 (n3 : Int), .int .i64 (n4 : Int), .int .i64 (n5 : Int), .string body] 46 (0, 0) := ⟨_, rfl⟩
  have B0h : Hid ((w.alloc B0).heap[w.heap.size]? = some (Obj.cells #[.int .i64 kind, .int .i64 (n1 : Int), .int .i64 (n2 : Int), .int .i64 (n3 : Int), .int .i64 (n4 : Int), .int .i64 (n5 : Int), .string body] 46 (0, 0))) := by rw [← eB]; exact heap_new w _
  have O0 : Hid _ := own_one9 (w.alloc B0) kind
  rw [World.size_alloc] at O0
  have KS0 : Hid (Same (fun k => w.heap.size + 1 ≤ k) (w.alloc B0) ((w.alloc B0).alloc (.cells #[.int .u8 kind] 5 (0, 0)))) := (Same.refl _ _).alloc _
  unfold rowV
  simp only
  clear hk h1 h2 h3 h4 h5
  go_enter Try.func46, Try.ntmps46
  go_wp2_with fail
  rw [← eB]
  have HN1 : Hid _ := number_ref O0.out n1 (by simp only [List.length_cons, List.length_nil]; omega) (by omega) (by rw [World.size_alloc, World.size_alloc]; omega)
  refine Calls.mono HN1.out ?_
  rintro e w2 ⟨v1, rfl, o1, k1⟩
  have O1 : Hid _ := o1
  have KS1 : Hid (Same (fun k => w.heap.size + 1 ≤ k) (w.alloc B0) w2) := KS0.out.trans' k1
  obtain ⟨⟨c0, c1, c2, c3, c4, c5, c6⟩, -⟩ := row_obj ((KS1.out.block w.heap.size (by simp [World.size_alloc]) (by omega)).trans B0h.out)
  have hl1 : w.heap.size < w2.heap.size := Nat.lt_of_lt_of_le (by simp [World.size_alloc]) KS1.out.size
  clear o1 k1 HN1 O0 KS0
  go_wp2_with fail
  have HN2 : Hid _ := number_ref O1.out n2 (by simp only [List.length_append, List.length_cons, List.length_nil]; omega) (by omega) (by have := KS1.out.size; rw [World.size_alloc] at this; exact this)
  refine Calls.mono HN2.out ?_
  rintro e w3 ⟨v2, rfl, o2, k2⟩
  have O2 : Hid _ := o2
  have KS2 : Hid (Same (fun k => w.heap.size + 1 ≤ k) (w.alloc B0) w3) := KS1.out.trans' k2
  clear c0 c1 c2 c3 c4 c5 c6
  obtain ⟨⟨c0, c1, c2, c3, c4, c5, c6⟩, -⟩ := row_obj ((KS2.out.block w.heap.size (by simp [World.size_alloc]) (by omega)).trans B0h.out)
  have hl2 : w.heap.size < w3.heap.size := Nat.lt_of_lt_of_le (by simp [World.size_alloc]) KS2.out.size
  clear o2 k2 HN2 O1 KS1
  go_wp2_with fail
  have HN3 : Hid _ := number_ref O2.out n3 (by simp only [List.length_append, List.length_cons, List.length_nil]; omega) (by omega) (by have := KS2.out.size; rw [World.size_alloc] at this; exact this)
  refine Calls.mono HN3.out ?_
  rintro e w4 ⟨v3, rfl, o3, k3⟩
  have O3 : Hid _ := o3
  have KS3 : Hid (Same (fun k => w.heap.size + 1 ≤ k) (w.alloc B0) w4) := KS2.out.trans' k3
  clear c0 c1 c2 c3 c4 c5 c6
  obtain ⟨⟨c0, c1, c2, c3, c4, c5, c6⟩, -⟩ := row_obj ((KS3.out.block w.heap.size (by simp [World.size_alloc]) (by omega)).trans B0h.out)
  have hl3 : w.heap.size < w4.heap.size := Nat.lt_of_lt_of_le (by simp [World.size_alloc]) KS3.out.size
  clear o3 k3 HN3 O2 KS2
  go_wp2_with fail
  have HN4 : Hid _ := number_ref O3.out n4 (by simp only [List.length_append, List.length_cons, List.length_nil]; omega) (by omega) (by have := KS3.out.size; rw [World.size_alloc] at this; exact this)
  refine Calls.mono HN4.out ?_
  rintro e w5 ⟨v4, rfl, o4, k4⟩
  have O4 : Hid _ := o4
  have KS4 : Hid (Same (fun k => w.heap.size + 1 ≤ k) (w.alloc B0) w5) := KS3.out.trans' k4
  clear c0 c1 c2 c3 c4 c5 c6
  obtain ⟨⟨c0, c1, c2, c3, c4, c5, c6⟩, -⟩ := row_obj ((KS4.out.block w.heap.size (by simp [World.size_alloc]) (by omega)).trans B0h.out)
  have hl4 : w.heap.size < w5.heap.size := Nat.lt_of_lt_of_le (by simp [World.size_alloc]) KS4.out.size
  clear o4 k4 HN4 O3 KS3
  go_wp2_with fail
  have HN5 : Hid _ := number_ref O4.out n5 (by simp only [List.length_append, List.length_cons, List.length_nil]; omega) (by omega) (by have := KS4.out.size; rw [World.size_alloc] at this; exact this)
  refine Calls.mono HN5.out ?_
  rintro e w6 ⟨v5, rfl, o5, k5⟩
  have O5 : Hid _ := o5
  have KS5 : Hid (Same (fun k => w.heap.size + 1 ≤ k) (w.alloc B0) w6) := KS4.out.trans' k5
  clear c0 c1 c2 c3 c4 c5 c6
  obtain ⟨⟨c0, c1, c2, c3, c4, c5, c6⟩, -⟩ := row_obj ((KS5.out.block w.heap.size (by simp [World.size_alloc]) (by omega)).trans B0h.out)
  have hl5 : w.heap.size < w6.heap.size := Nat.lt_of_lt_of_le (by simp [World.size_alloc]) KS5.out.size
  clear o5 k5 HN5 O4 KS4
  go_wp2_with fail
  refine Calls.mono (HX.out _) ?_
  rintro e w7 ⟨v6, rfl, o6, k6⟩
  obtain ⟨a6, cp6, rfl, d6, -, hn6, -, -⟩ := OwnB.bytes o6
  clear c0 c1 c2 c3 c4 c5 c6
  have HA : Hid (∀ ty, _) := fun ty => app_bytes (c := cp6) (OwnB.kept O5.out k6 (fun _ _ h => h)) d6 hn6 (by simp only [List.length_append, List.length_cons, List.length_nil]; omega) (by have h5' := KS5.out.size; have h6' := k6.size; rw [World.size_alloc] at h5'; omega) ty
  have KS6 : Hid (Same (fun k => w.heap.size + 1 ≤ k) (w.alloc B0) w7) := KS5.out.trans' (Kept.to k6 _)
  clear o6 d6 hn6 k6
  go_wp2_with (at_builtin; refine wpList_app rfl (.tmp 32) (.tmp 33) 23 23 rfl _ _ rfl rfl _ HA.out ?_; intro v' w8 hR)
  go_ret
  refine ⟨v', rfl, ?_, ?_⟩
  · rw [HT.out]
    exact OwnB.lower hR.1 (Nat.le_succ _)
  · exact ((Same.refl _ w).alloc B0).trans (KS6.out.trans' hR.2) (fun i hi e => by omega)
end Go.Proofs.Ytcbllejjiokmbaa
