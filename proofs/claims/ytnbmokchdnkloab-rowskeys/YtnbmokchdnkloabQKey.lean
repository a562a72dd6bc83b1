/- What is proved: put writes the lowest bytes of a number behind a row of one's own, and Key gives a right row's key, and refuses an order that is unknown and a row that isn't right; no condition. -/
import Derived.Test.YtnbmokchdnkloabQKeyM
import Derived.Test.YtnbmokchdnkloabQOpen
namespace Go.Proofs.Ytnbmokchdnkloab
open Go.RowKit

set_option maxRecDepth 100000 in
set_option maxHeartbeats 800000 in
theorem put9_any {base : Nat} {w : World} {v : Value} {l : List Int} (o : OwnB base w v l) (n s : Nat) (hb : l.length + 8 ≤ 140737488355328) (hn : n ≤ 72057594037927935) (hs : s ≤ 8) (hbase : base ≤ w.heap.size) :
    Calls Try.prog 14 #[v, .int .i64 (n : Int), .int .i64 (s : Int)] w fun e w' => ∃ v', e = .returned v' ∧ OwnB base w' v' (l ++ be s n) ∧ Same (fun k => base ≤ k) w w' := by
  have O : Hid _ := o
  have HBASE : Hid _ := hbase
  have hs2 : (s : Int) ≤ 8 := by omega
  have hn2 : (n : Int) ≤ 72057594037927935 := by omega
  clear o hbase
  go_enter Try.func14, Try.ntmps14
  go_wp2_with fail
  go_loopw [0, 7] (fun u i wr => ∃ (j : Nat) (l' : List Int), i = .int .i64 ((j : Int) - 1) ∧ j ≤ s ∧ OwnB base wr u l' ∧ l' ++ be j n = l ++ be s n ∧ Same (fun k => base ≤ k) w wr ∧ l'.length + j = l.length + s) (fun _ i _ => (intOf i + 1).toNat)
  case atStart => exact ⟨s, l, rfl, Nat.le_refl _, O.out, rfl, Same.refl _ _, rfl⟩
  case round =>
    obtain ⟨j, l', rfl, hj, oo, he, kk, hlen⟩ := hrel
    have OO : Hid _ := oo
    have KK : Hid _ := kk
    have HE : Hid _ := he
    clear oo kk he O
    rcases (show j = 0 ∨ j = 1 ∨ j = 2 ∨ j = 3 ∨ j = 4 ∨ j = 5 ∨ j = 6 ∨ j = 7 ∨ j = 8 by omega) with rfl | rfl | rfl | rfl | rfl | rfl | rfl | rfl | rfl
    · go_wp2_with fail
      go_ret
      exact ⟨_, rfl, by rw [← HE.out, be, List.append_nil]; exact OO.out, KK.out⟩
    · have hx : be 1 n = ((n : Int) % 256) :: be 0 n := by
        show (((n / 1 % 256 : Nat) : Int)) :: be 0 n = _
        congr 1 <;> omega
      rw [hx] at HE
      have HA : Hid (∀ ty, _) := fun ty => app_one ((n : Int) % 256) OO.out (by omega) (Nat.le_trans HBASE.out KK.out.size) ty
      clear hx
      go_wp2_with (at_builtin; refine wpList_app rfl (.tmp 14) (.tmp 20) 25 25 rfl _ _ rfl rfl _ HA.out ?_; intro v' w2 hR)
      go_roundw
      case rel => exact ⟨0, l' ++ [((n : Int) % 256)], rfl, by omega, hR.1, by rw [← HE.out, List.append_assoc]; rfl, KK.out.trans' hR.2, by rw [List.length_append, List.length_singleton]; omega⟩
      case measure => simp only [intOf]; omega
    · have hx : be 2 n = ((n : Int) / 256 % 256) :: be 1 n := by
        show (((n / 256 % 256 : Nat) : Int)) :: be 1 n = _
        congr 1 <;> omega
      rw [hx] at HE
      have HA : Hid (∀ ty, _) := fun ty => app_one ((n : Int) / 256 % 256) OO.out (by omega) (Nat.le_trans HBASE.out KK.out.size) ty
      clear hx
      go_wp2_with (at_builtin; refine wpList_app rfl (.tmp 14) (.tmp 20) 25 25 rfl _ _ rfl rfl _ HA.out ?_; intro v' w2 hR)
      go_roundw
      case rel => exact ⟨1, l' ++ [((n : Int) / 256 % 256)], rfl, by omega, hR.1, by rw [← HE.out, List.append_assoc]; rfl, KK.out.trans' hR.2, by rw [List.length_append, List.length_singleton]; omega⟩
      case measure => simp only [intOf]; omega
    · have hx : be 3 n = ((n : Int) / 65536 % 256) :: be 2 n := by
        show (((n / 65536 % 256 : Nat) : Int)) :: be 2 n = _
        congr 1 <;> omega
      rw [hx] at HE
      have HA : Hid (∀ ty, _) := fun ty => app_one ((n : Int) / 65536 % 256) OO.out (by omega) (Nat.le_trans HBASE.out KK.out.size) ty
      clear hx
      go_wp2_with (at_builtin; refine wpList_app rfl (.tmp 14) (.tmp 20) 25 25 rfl _ _ rfl rfl _ HA.out ?_; intro v' w2 hR)
      go_roundw
      case rel => exact ⟨2, l' ++ [((n : Int) / 65536 % 256)], rfl, by omega, hR.1, by rw [← HE.out, List.append_assoc]; rfl, KK.out.trans' hR.2, by rw [List.length_append, List.length_singleton]; omega⟩
      case measure => simp only [intOf]; omega
    · have hx : be 4 n = ((n : Int) / 16777216 % 256) :: be 3 n := by
        show (((n / 16777216 % 256 : Nat) : Int)) :: be 3 n = _
        congr 1 <;> omega
      rw [hx] at HE
      have HA : Hid (∀ ty, _) := fun ty => app_one ((n : Int) / 16777216 % 256) OO.out (by omega) (Nat.le_trans HBASE.out KK.out.size) ty
      clear hx
      go_wp2_with (at_builtin; refine wpList_app rfl (.tmp 14) (.tmp 20) 25 25 rfl _ _ rfl rfl _ HA.out ?_; intro v' w2 hR)
      go_roundw
      case rel => exact ⟨3, l' ++ [((n : Int) / 16777216 % 256)], rfl, by omega, hR.1, by rw [← HE.out, List.append_assoc]; rfl, KK.out.trans' hR.2, by rw [List.length_append, List.length_singleton]; omega⟩
      case measure => simp only [intOf]; omega
    · have hx : be 5 n = ((n : Int) / 4294967296 % 256) :: be 4 n := by
        show (((n / 4294967296 % 256 : Nat) : Int)) :: be 4 n = _
        congr 1 <;> omega
      rw [hx] at HE
      have HA : Hid (∀ ty, _) := fun ty => app_one ((n : Int) / 4294967296 % 256) OO.out (by omega) (Nat.le_trans HBASE.out KK.out.size) ty
      clear hx
      go_wp2_with (at_builtin; refine wpList_app rfl (.tmp 14) (.tmp 20) 25 25 rfl _ _ rfl rfl _ HA.out ?_; intro v' w2 hR)
      go_roundw
      case rel => exact ⟨4, l' ++ [((n : Int) / 4294967296 % 256)], rfl, by omega, hR.1, by rw [← HE.out, List.append_assoc]; rfl, KK.out.trans' hR.2, by rw [List.length_append, List.length_singleton]; omega⟩
      case measure => simp only [intOf]; omega
    · have hx : be 6 n = ((n : Int) / 1099511627776 % 256) :: be 5 n := by
        show (((n / 1099511627776 % 256 : Nat) : Int)) :: be 5 n = _
        congr 1 <;> omega
      rw [hx] at HE
      have HA : Hid (∀ ty, _) := fun ty => app_one ((n : Int) / 1099511627776 % 256) OO.out (by omega) (Nat.le_trans HBASE.out KK.out.size) ty
      clear hx
      go_wp2_with (at_builtin; refine wpList_app rfl (.tmp 14) (.tmp 20) 25 25 rfl _ _ rfl rfl _ HA.out ?_; intro v' w2 hR)
      go_roundw
      case rel => exact ⟨5, l' ++ [((n : Int) / 1099511627776 % 256)], rfl, by omega, hR.1, by rw [← HE.out, List.append_assoc]; rfl, KK.out.trans' hR.2, by rw [List.length_append, List.length_singleton]; omega⟩
      case measure => simp only [intOf]; omega
    · have hx : be 7 n = ((n : Int) / 281474976710656) :: be 6 n := by
        show (((n / 281474976710656 % 256 : Nat) : Int)) :: be 6 n = _
        congr 1 <;> omega
      rw [hx] at HE
      have HA : Hid (∀ ty, _) := fun ty => app_one ((n : Int) / 281474976710656) OO.out (by omega) (Nat.le_trans HBASE.out KK.out.size) ty
      clear hx
      go_wp2_with (at_builtin; refine wpList_app rfl (.tmp 14) (.tmp 20) 25 25 rfl _ _ rfl rfl _ HA.out ?_; intro v' w2 hR)
      go_roundw
      case rel => exact ⟨6, l' ++ [((n : Int) / 281474976710656)], rfl, by omega, hR.1, by rw [← HE.out, List.append_assoc]; rfl, KK.out.trans' hR.2, by rw [List.length_append, List.length_singleton]; omega⟩
      case measure => simp only [intOf]; omega
    · have hx : be 8 n = ((n : Int) / 72057594037927936) :: be 7 n := by
        show (((n / 72057594037927936 % 256 : Nat) : Int)) :: be 7 n = _
        congr 1 <;> omega
      rw [hx] at HE
      have HA : Hid (∀ ty, _) := fun ty => app_one ((n : Int) / 72057594037927936) OO.out (by omega) (Nat.le_trans HBASE.out KK.out.size) ty
      clear hx
      go_wp2_with (at_builtin; refine wpList_app rfl (.tmp 14) (.tmp 20) 25 25 rfl _ _ rfl rfl _ HA.out ?_; intro v' w2 hR)
      go_roundw
      case rel => exact ⟨7, l' ++ [((n : Int) / 72057594037927936)], rfl, by omega, hR.1, by rw [← HE.out, List.append_assoc]; rfl, KK.out.trans' hR.2, by rw [List.length_append, List.length_singleton]; omega⟩
      case measure => simp only [intOf]; omega
/-- Key of a right row in a known order. -/
theorem own_nil (base : Nat) (w : World) : OwnB base w (.slice none 0 0) [] := OwnB.nil base w
set_option maxRecDepth 100000 in
set_option maxHeartbeats 800000 in
theorem key_ok (w : World) (order : Int) (ho : order = 1 ∨ order = 2) (r : RwM) (hr : rightR r) : Calls Try.prog 5 #[.int .i64 order, rowV r] w fun e w' => ∃ v, e = .returned (.tuple #[v, .int .i64 0]) ∧ OwnB w.heap.size w' v (key9 order r) ∧ Kept w w' := by
  have H1 : Hid (∀ W, _) := fun W => valid9_any r W
  rw [decide_eq_true hr] at H1
  obtain ⟨kind, time, seq, index, frm, til, body⟩ := r
  obtain ⟨hk, ⟨h1, b1⟩, ⟨h2, b2⟩, ⟨h3, b3⟩, -⟩ := hr
  simp only at hk h1 b1 h2 b2 h3 b3
  have h0 : 0 ≤ kind := by omega
  obtain ⟨n0, rfl⟩ := Int.eq_ofNat_of_zero_le h0
  obtain ⟨n1, rfl⟩ := Int.eq_ofNat_of_zero_le h1
  obtain ⟨n2, rfl⟩ := Int.eq_ofNat_of_zero_le h2
  obtain ⟨n3, rfl⟩ := Int.eq_ofNat_of_zero_le h3
  have HP : Hid (∀ (W : World) (v : Value) (l : List Int) (n s : Nat), OwnB (w.heap.size + 1) W v l → l.length ≤ 12 → n ≤ 1099511627776 → s ≤ 8 → w.heap.size + 1 ≤ W.heap.size → _) := fun W v l n s (o : OwnB (w.heap.size + 1) W v l) hl hn hs hb => put9_any o n s (by omega) (by omega) hs hb
  unfold rowV at *
  simp only at *
  have g0 : n0 ≤ 1099511627776 := by omega
  have g1 : n1 ≤ 1099511627776 := by omega
  have g2 : n2 ≤ 1099511627776 := by omega
  have g3 : n3 ≤ 1099511627776 := by omega
  rcases ho with rfl | rfl
  · have HT : Hid (key9 1 ⟨n0, n1, n2, n3, frm, til, body⟩ = [] ++ be 8 n1 ++ be 1 n0 ++ be 4 n3) := by
      show key9 1 _ = _
      simp only [key9, Int.toNat_natCast, if_true, List.nil_append, List.append_assoc]
    generalize key9 1 ⟨n0, n1, n2, n3, frm, til, body⟩ = T at HT ⊢
    clear hk h0 h1 b1 h2 b2 h3 b3
    go_enter Try.func5, Try.ntmps5
    go_wp2_with fail
    refine Calls.mono (H1.out _) ?_
    rintro e w1 ⟨rfl, k1⟩
    have b1 := (k1.block w.heap.size (by simp [World.size_alloc]) (fun h => h)).trans (heap_new w _)
    have B1 : Hid _ := b1
    have K1 : Hid (Kept w w1) := ((Same.refl _ w).alloc _).trans' k1
    obtain ⟨⟨c0, c1, c2, c3, c4, c5, c6⟩, -⟩ := row_obj b1
    have hl1 := lt_of_heap b1
    clear k1 b1
    go_wp2_with fail
    refine Calls.mono (HP.out w1 _ [] n1 8 (OwnB.nil _ _) (by decide) g1 (by decide) hl1) ?_
    rintro e w2 ⟨v2, rfl, o2, s2⟩
    have O2 : Hid _ := o2
    have S2 : Hid _ := s2
    obtain ⟨⟨c0, c1, c2, c3, c4, c5, c6⟩, -⟩ := row_obj ((s2.block _ hl1 (by omega)).trans B1.out)
    have hl2 : w.heap.size < w2.heap.size := Nat.lt_of_lt_of_le hl1 s2.size
    clear o2 s2
    go_wp2_with fail
    refine Calls.mono (HP.out w2 _ _ n0 1 O2.out (by rw [List.nil_append, be_len]; decide) g0 (by decide) hl2) ?_
    rintro e w3 ⟨v3, rfl, o3, s3⟩
    have O3 : Hid _ := o3
    have S3 : Hid _ := S2.out.trans' s3
    obtain ⟨⟨c0, c1, c2, c3, c4, c5, c6⟩, -⟩ := row_obj ((S3.out.block _ hl1 (by omega)).trans B1.out)
    have hl3 : w.heap.size < w3.heap.size := Nat.lt_of_lt_of_le hl1 S3.out.size
    clear o3 s3
    go_wp2_with fail
    refine Calls.mono (HP.out w3 _ _ n3 4 O3.out (by rw [List.nil_append, List.length_append, be_len, be_len]; decide) g3 (by decide) hl3) ?_
    rintro e w4 ⟨v4, rfl, o4, s4⟩
    have O4 : Hid _ := o4
    have S4 : Hid _ := S3.out.trans' s4
    clear o4 s4
    go_wp2_with fail
    go_ret2
    exact ⟨v4, rfl, by rw [HT.out]; exact OwnB.lower O4.out (Nat.le_succ _), K1.out.trans S4.out (fun i hi e => by omega)⟩
  · have HT : Hid (key9 2 ⟨n0, n1, n2, n3, frm, til, body⟩ = [] ++ be 8 n1 ++ be 4 n2 ++ be 4 n3) := by
      show key9 2 _ = _
      rw [key9, if_neg (by decide)]
      simp only [Int.toNat_natCast, List.nil_append, List.append_assoc]
    generalize key9 2 ⟨n0, n1, n2, n3, frm, til, body⟩ = T at HT ⊢
    clear hk h0 h1 b1 h2 b2 h3 b3
    go_enter Try.func5, Try.ntmps5
    go_wp2_with fail
    refine Calls.mono (H1.out _) ?_
    rintro e w1 ⟨rfl, k1⟩
    have b1 := (k1.block w.heap.size (by simp [World.size_alloc]) (fun h => h)).trans (heap_new w _)
    have B1 : Hid _ := b1
    have K1 : Hid (Kept w w1) := ((Same.refl _ w).alloc _).trans' k1
    obtain ⟨⟨c0, c1, c2, c3, c4, c5, c6⟩, -⟩ := row_obj b1
    have hl1 := lt_of_heap b1
    clear k1 b1
    go_wp2_with fail
    refine Calls.mono (HP.out w1 _ [] n1 8 (OwnB.nil _ _) (by decide) g1 (by decide) hl1) ?_
    rintro e w2 ⟨v2, rfl, o2, s2⟩
    have O2 : Hid _ := o2
    have S2 : Hid _ := s2
    obtain ⟨⟨c0, c1, c2, c3, c4, c5, c6⟩, -⟩ := row_obj ((s2.block _ hl1 (by omega)).trans B1.out)
    have hl2 : w.heap.size < w2.heap.size := Nat.lt_of_lt_of_le hl1 s2.size
    clear o2 s2
    go_wp2_with fail
    refine Calls.mono (HP.out w2 _ _ n2 4 O2.out (by rw [List.nil_append, be_len]; decide) g2 (by decide) hl2) ?_
    rintro e w3 ⟨v3, rfl, o3, s3⟩
    have O3 : Hid _ := o3
    have S3 : Hid _ := S2.out.trans' s3
    obtain ⟨⟨c0, c1, c2, c3, c4, c5, c6⟩, -⟩ := row_obj ((S3.out.block _ hl1 (by omega)).trans B1.out)
    have hl3 : w.heap.size < w3.heap.size := Nat.lt_of_lt_of_le hl1 S3.out.size
    clear o3 s3
    go_wp2_with fail
    refine Calls.mono (HP.out w3 _ _ n3 4 O3.out (by rw [List.nil_append, List.length_append, be_len, be_len]; decide) g3 (by decide) hl3) ?_
    rintro e w4 ⟨v4, rfl, o4, s4⟩
    have O4 : Hid _ := o4
    have S4 : Hid _ := S3.out.trans' s4
    clear o4 s4
    go_wp2_with fail
    go_ret2
    exact ⟨v4, rfl, by rw [HT.out]; exact OwnB.lower O4.out (Nat.le_succ _), K1.out.trans S4.out (fun i hi e => by omega)⟩
set_option maxRecDepth 100000 in
theorem key_order (w : World) (order : Int) (h1 : order ≠ 1) (h2 : order ≠ 2) (r : RwM) : Calls Try.prog 5 #[.int .i64 order, rowV r] w fun e w' => e = .returned (.tuple #[.slice none 0 0, .int .i64 91]) ∧ Kept w w' := by
  have d1 : (order != 1) = true := by simpa using h1
  have d2 : (order != 2) = true := by simpa using h2
  obtain ⟨kind, time, seq, index, frm, til, body⟩ := r
  unfold rowV
  simp only
  clear h1 h2
  go_enter Try.func5, Try.ntmps5
  go_wp2_with fail
  go_ret2
  exact ⟨rfl, (Same.refl _ w).alloc _⟩
set_option maxRecDepth 100000 in
theorem key_row (w : World) (order : Int) (ho : order = 1 ∨ order = 2) (r : RwM) (hr : ¬ rightR r) : Calls Try.prog 5 #[.int .i64 order, rowV r] w fun e w' => e = .returned (.tuple #[.slice none 0 0, .int .i64 90]) ∧ Kept w w' := by
  have H1 : Hid (∀ W, _) := fun W => valid9_any r W
  rw [decide_eq_false hr] at H1
  obtain ⟨kind, time, seq, index, frm, til, body⟩ := r
  unfold rowV at *
  simp only at *
  clear hr
  rcases ho with rfl | rfl
  · go_enter Try.func5, Try.ntmps5
    go_wp2_with fail
    refine Calls.mono (H1.out _) ?_
    rintro e w1 ⟨rfl, k1⟩
    go_wp2_with fail
    go_ret2
    exact ⟨rfl, ((Same.refl _ w).alloc _).trans' k1⟩
  · go_enter Try.func5, Try.ntmps5
    go_wp2_with fail
    refine Calls.mono (H1.out _) ?_
    rintro e w1 ⟨rfl, k1⟩
    go_wp2_with fail
    go_ret2
    exact ⟨rfl, ((Same.refl _ w).alloc _).trans' k1⟩
end Go.Proofs.Ytnbmokchdnkloab
