/- What is proved: the law StreamBroken returns true and turns nothing that was there; no condition. -/
import Derived.Test.YtepdnmjolhfboaaSBrkM
namespace Go.Proofs.Ytepdnmjolhfboaa
open Go.RowKit

theorem make_any (w : World) (n : Nat) (hn : n ≤ 4194304) (v : Int) (hv : v = n) : (Instr.makeSlice 22 (.int .i64 v) (.int .i64 v)).run Try.prog w = .ok (.slice (some ⟨w.heap.size, 0, none⟩) n n) (w.alloc (rowObj (List.replicate n 0))) := by
  subst hv
  exact make_bytes w n hn
theorem src_row {o : Nat → Nat} {w : World} {n : Nat} : Src8 (tagN w 0 o) 4 (w.alloc (rowObj (List.replicate n 0))) (some ⟨w.heap.size, 0, none⟩) n (List.replicate n 0) := by
  have hr := heap_new w (rowObj (List.replicate n 0))
  exact ⟨bytes_row hr, fun k' hk => by
    obtain ⟨_, off, e⟩ := hk
    cases e
    rw [tagN_new (Nat.le_refl _)]
    rintro (e | e | e) <;> omega, by simp, (fun e => by cases e), (fun ad e => by cases e; rfl)⟩

theorem field_cnt (a b c d : Value) (W : World) : (Instr.field 49 (.agg #[a, b, c, d]) 2).run Try.prog W = .ok c W := by kernel_rfl
set_option maxRecDepth 100000 in
set_option maxHeartbeats 3200000 in
theorem broken_go (b a : Nat) (hb : b ≤ 5) (ha : a ≤ b * 16) (w : World) : Calls Try.prog 7 #[.int .i64 (b : Int), .int .i64 (a : Int)] w fun e w' => e = .returned (.bool true) ∧ Kept w w' := by
  have HAN : Hid _ := anchor_any8 w
  have hnot : ∀ (x : Bool) (w : World), (Op.unary .not (.bool x)).run Try.prog w = .ok (.bool (!x)) w := fun _ _ => rfl
  have t1 : decide ((b : Int) < 0) = false := by simp
  have t2 : decide ((b : Int) > 5) = false := by simp; omega
  have t2' : ¬ ((b : Int) > 5) := by omega
  have t3 : decide ((a : Int) < 0) = false := by simp
  have t4 : ¬ ((a : Int) > (b : Int) * 16) := by omega
  have t5 : decide ((a : Int) > (b : Int) * 16) = false := by simp; omega
  go_enter Try.func7, Try.ntmps7
  go_wp2_with fail
  refine Calls.mono HAN.out ?_
  rintro x w1 ⟨rfl, k1⟩
  have K1 : Hid _ := k1
  clear k1 HAN
  obtain ⟨w2, ew2⟩ : ∃ w2, w2 = (w1.alloc (.cells #[.int .i64 1, .int .i64 b, .int .i64 1, .int .i64 0, .int .i64 3, .int .i64 0, .int .i64 ((b : Int) + 1), .int .i64 0] 69)) := ⟨_, rfl⟩
  have EW2 : Hid _ := ew2
  obtain ⟨fr, efr⟩ : ∃ fr, fr = w1.heap.size := ⟨_, rfl⟩
  have EFR : Hid _ := efr
  obtain ⟨w3, ew3⟩ : ∃ w3, w3 = w2.alloc (rowObj (List.replicate 100 0)) := ⟨_, rfl⟩
  have hmk : (Instr.makeSlice 22 (.int .i64 100) (.int .i64 100)).run Try.prog w2 = .ok (.slice (some ⟨w2.heap.size, 0, none⟩) 100 100) w3 := by rw [ew3]; exact make_any w2 100 (by omega) 100 rfl
  have k2 : Kept w1 w2 := by rw [ew2]; exact (Same.refl _ w1).alloc _
  have k3 : Kept w2 w3 := by rw [ew3]; exact (Same.refl _ w2).alloc _
  have hfo : w3.heap[fr]? = some (.cells #[.int .i64 1, .int .i64 b, .int .i64 1, .int .i64 0, .int .i64 3, .int .i64 0, .int .i64 ((b : Int) + 1), .int .i64 0] 69 (0, 0)) := by
    have h2 : w2.heap[fr]? = some (.cells #[.int .i64 1, .int .i64 b, .int .i64 1, .int .i64 0, .int .i64 3, .int .i64 0, .int .i64 ((b : Int) + 1), .int .i64 0] 69 (0, 0)) := by rw [ew2, efr]; exact heap_new w1 _
    exact (k3.block fr (lt_of_heap h2) (fun h => h)).trans h2
  have hFA : FaultsAt w3 (some ⟨fr, 0, none⟩) [⟨1, b, 1, 0⟩, ⟨3, 0, (b : Int) + 1, 0⟩] := fun i f hf => by
    refine ⟨fr, 0, rfl, lt_of_heap hfo, ?_⟩
    rcases i with _ | _ | i
    · simp only [List.getElem?_cons_zero, Option.some.injEq] at hf
      subst hf
      exact ⟨(cell_of hfo 0).trans rfl, (cell_of hfo 1).trans rfl, (cell_of hfo 2).trans rfl, (cell_of hfo 3).trans rfl⟩
    · simp only [List.getElem?_cons_succ, List.getElem?_cons_zero, Option.some.injEq] at hf
      subst hf
      exact ⟨(cell_of hfo 4).trans rfl, (cell_of hfo 5).trans rfl, (cell_of hfo 6).trans rfl, (cell_of hfo 7).trans rfl⟩
    · simp at hf
  have hib : BytesAt w3 (some ⟨w2.heap.size, 0, none⟩) (List.replicate 100 0) := by
    have : w3.heap[w2.heap.size]? = some (rowObj (List.replicate 100 0)) := by rw [ew3]; exact heap_new w2 _
    exact bytes_row this
  have HNW : Hid (Calls Try.prog 13 #[.agg #[.int .i64 16, .int .i64 8], .slice (some ⟨w2.heap.size, 0, none⟩) 100 100, .slice none 0 0, .slice (some ⟨fr, 0, none⟩) 2 2] w3 fun e w' => ∃ p, e = .returned (.tuple #[.pointer (some ⟨p.db, 0, none⟩), .int .i64 0]) ∧ Dv w' (dB b) p ∧ (∀ k, Foot (dB b) p k → w3.heap.size ≤ k) ∧ Kept w3 w') :=
    new_yes 16 8 (some ⟨w2.heap.size, 0, none⟩) none (some ⟨fr, 0, none⟩) 100 0 2 (List.replicate 100 0) [] [⟨1, b, 1, 0⟩, ⟨3, 0, (b : Int) + 1, 0⟩] w3 hib (BytesAt.nil _ _) hFA (fun e => by cases e) (fun e => by cases e) ((by decide : ∀ b : Nat, b < 6 → chk 16 8 (List.replicate 100 (0 : Int)).length ([] : List Int).length [⟨1, b, 1, 0⟩, ⟨3, 0, (b : Int) + 1, 0⟩] = 0) b (by omega))
  have K3 : Hid (Kept w w3) := (K1.out.trans' k2).trans' k3
  clear ew2 efr ew3 k2 k3 hfo hFA hib K1
  go_upto_region 6 with fail
  rw [← EW2.out, ← EFR.out]
  go_wp2_with fail
  refine Calls.mono HNW.out ?_
  rintro x w4 ⟨p, rfl, h4, hf4, k4⟩
  have HS : Hid _ := nw_any (tagD p) 8 (by omega) w4
  have H4 : Hid _ := And.intro h4 (And.intro hf4 k4)
  clear h4 hf4 k4 HNW hmk EW2 EFR
  go_wp2_with fail
  refine Calls.mono HS.out ?_
  rintro x w5 ⟨sp, rfl, h5, k5, -⟩
  have hd5 : DvT (tagN w4 2 (tagD p)) w5 (dB b) p := (tagD_dv H4.out.1).on (S := fun _ => False) ⟨k5, fun k hk => tagN_old hk⟩ (fun h => h) (fun h => h)
  have HIN : Hid _ := sinput_any (o := tagN w4 2 (tagD p)) 3 hd5.dv
  have H5 : Hid _ := And.intro h5 (And.intro k5 hd5)
  clear h5 k5 hd5 HS
  go_wp2_with fail
  refine Calls.mono HIN.out ?_
  rintro x w6 ⟨rb, o6, rfl, -, st6, hr6, hi6⟩
  have HCR : Hid _ := create_any o6 4 w6 p sp
  have H6 : Hid _ := And.intro st6 (And.intro hr6 hi6)
  clear st6 hr6 hi6 HIN
  go_wp2_with fail
  refine Calls.mono HCR.out ?_
  rintro x w7 ⟨wb, rfl, hw7, k7, -⟩
  -- what stands
  obtain ⟨h4, hf4, k4⟩ := H4.out
  obtain ⟨h5, k5, hd5⟩ := H5.out
  obtain ⟨st6, hr6, hi6⟩ := H6.out
  have st7 : Step (fun _ => False) o6 w6 (tagN w6 4 o6) w7 := ⟨k7, fun k hk => tagN_old hk⟩
  have hd7 := (hd5.on st6 (fun h => h) (fun h => h)).on st7 (fun h => h) (fun h => h)
  have hs7 := (h5.on st6 (fun h => h)).on st7 (fun h => h)
  have hr7 := hr6.on st7 (fun h => h) (fun h => h)
  have kW7 : Kept w w7 := (((K3.out.trans' k4).trans' k5).trans' (st6.same.mono fun _ _ h => h)).trans' k7
  have hz7 : ∀ k, k < w.heap.size → tagN w6 4 o6 k = 0 := fun k hk => by
    have a3 := K3.out.size
    have a4 := k4.size
    have a5 := k5.size
    have a6 := st6.same.size
    rw [tagN_old (by omega), st6.tag k (by omega), tagN_old (by omega)]
    exact tagD_old hf4 (by omega)
  obtain ⟨o7, eo7⟩ : ∃ o7, o7 = tagN w6 4 o6 := ⟨_, rfl⟩
  rw [← eo7] at hd7 hs7 hr7 hz7 hw7
  have hin : (dB b).inp.length = 100 := rfl
  rw [hin] at hr7 hi6
  have ha80 : a ≤ 80 := by omega
  have HR1 : Hid _ := read_ok8 hd7 hr7 ⟨by decide, by decide⟩ hi6 (by show 0 + 200000 < 4611686018427387904; omega) a (by omega)
  have H7 : Hid _ := And.intro hs7 (And.intro hw7 (And.intro kW7 hz7))
  clear h4 hf4 k4 h5 k5 hd5 st6 hr6 hi6 st7 hd7 hs7 hr7 kW7 hz7 hw7 k7 eo7 hin H4 H5 H6 HCR K3
  go_wp2_with fail
  refine Calls.mono HR1.out ?_
  rintro x w8 ⟨o8, st8, hd8, hc8⟩
  rw [show min a 100 = a by omega] at hc8 hd8
  obtain ⟨p1, p2, p3, p4, p5, p6, p7, p8, p9, p10, p11⟩ := okB_all hb ha
  have e1 : rd .inp a ⟨dB b, 0, []⟩ = rB1 b a := rfl
  rw [e1] at hc8 hd8
  rcases hc8.symm with ⟨hne, -⟩ | ⟨-, v, rfl, hv, -, hvl, hr8, hi8⟩
  · exact absurd p1 hne
  obtain ⟨va, vc, rfl, -⟩ := BytesAt.of_row hv
  rw [hvl]
  obtain ⟨hs7, hw7, kW7, hz7⟩ := H7.out
  have hs8 := hs7.on st8 (by omega)
  have hw8 := hw7.on st8 (by omega)
  have kW8 : Kept w w8 := kept_of kW7 st8 fun k hk => by rw [hz7 k hk]; rintro (e | e) <;> omega
  have hz8 : ∀ k, k < w.heap.size → o8 k = 0 := fun k hk => (st8.tag k (Nat.lt_of_lt_of_le hk kW7.size)).trans (hz7 k hk)
  have hi8' : RI .inp (rB1 b a).2.2.m (0 + a + (100 - a)) (0 + a) (rB1 b a).2.2.nx (rB1 b a).2.2.held := by
    rw [show 0 + a + (100 - a) = 0 + 100 by omega]
    exact hi8
  have HR2 : Hid _ := read_ok8 hd8 hr8 ⟨by decide, by decide⟩ hi8' (by omega) 100 (by omega)
  have H8 : Hid _ := And.intro hs8 (And.intro hw8 (And.intro kW8 hz8))
  have HP : Hid _ := And.intro p2 (And.intro p3 (And.intro p4 (And.intro p5 (And.intro p6 (And.intro p7 (And.intro p8 (And.intro p10 p11)))))))
  clear hs7 hw7 kW7 hz7 st8 hd8 hv hvl hr8 hi8 hi8' hs8 hw8 kW8 hz8 H7 HR1 p1 p2 p3 p4 p5 p6 p7 p8 p9 p10 p11 e1
  go_wp2_with fail
  refine Calls.mono HR2.out ?_
  rintro x w9 ⟨o9, st9, hd9, hc9⟩
  obtain ⟨p2, p3, p4, p5, p6, p7, p8, p10, p11⟩ := HP.out
  rw [show min 100 (100 - a) = 100 - a by omega] at hc9 hd9
  have e2 : rd .inp (100 - a) ⟨(rB1 b a).2.2.m, (rB1 b a).2.2.nx, (rB1 b a).2.2.held⟩ = rB2 b a := rfl
  rw [e2] at hc9 hd9
  rcases hc9 with ⟨h0, -⟩ | ⟨-, rfl, hr9⟩
  · rw [p2] at h0
    exact absurd h0 (by decide)
  rw [p2] at hr9 ⊢
  obtain ⟨hs8, hw8, kW8, hz8⟩ := H8.out
  have hs9 := hs8.on st9 (by omega)
  have hw9 := hw8.on st9 (by omega)
  have kW9 : Kept w w9 := kept_of kW8 st9 fun k hk => by rw [hz8 k hk]; rintro (e | e) <;> omega
  have hz9 : ∀ k, k < w.heap.size → o9 k = 0 := fun k hk => (st9.tag k (Nat.lt_of_lt_of_le hk kW8.size)).trans (hz8 k hk)
  have HR3 : Hid _ := read_broken hr9 (by decide) 1
  have H9 : Hid _ := And.intro hs9 (And.intro hw9 (And.intro kW9 (And.intro hz9 (And.intro hr9 hd9))))
  clear hs8 hw8 kW8 hz8 st9 hd9 hs9 hw9 kW9 hz9 hr9 H8 HR2 p2 p3 p4 p5 p6 p7 p8 p10 p11 e2
  go_wp2_with fail
  refine Calls.mono HR3.out ?_
  rintro x w10 ⟨rfl, k10⟩
  obtain ⟨hs9, hw9, kW9, hz9, hr9, hd9⟩ := H9.out
  have st10 : Step (fun _ => False) o9 w9 o9 w10 := ⟨k10, fun _ _ => rfl⟩
  have hr10 := hr9.on st10 (fun h => h) (fun h => h)
  have HOF : Hid _ := offset_any hr10
  have HLF : Hid _ := left_any8 hr10
  rw [Nat.zero_add] at HOF
  have H10 : Hid _ := And.intro (hs9.on st10 (fun h => h)) (And.intro (hw9.on st10 (fun h => h)) (And.intro (kW9.trans' k10) (And.intro hz9 (hd9.on st10 (fun h => h) (fun h => h)))))
  have hsub : (100 : Int) - (a : Int) = ((100 - a : Nat) : Int) := by omega
  clear hs9 hw9 kW9 hz9 hr9 hd9 st10 hr10 k10 H9 HR3
  go_wp2_with fail
  refine Calls.mono HOF.out ?_
  rintro x w10' ⟨rfl, e10⟩
  subst w10'
  go_wp2_with fail
  refine Calls.mono HLF.out ?_
  rintro x w10' ⟨rfl, e10⟩
  subst w10'
  obtain ⟨w11, ew11⟩ : ∃ w11, w11 = w10.alloc (rowObj (List.replicate a 0)) := ⟨_, rfl⟩
  have hmk1 : (Instr.makeSlice 22 (.int .i64 (a : Int)) (.int .i64 (a : Int))).run Try.prog w10 = .ok (.slice (some ⟨w10.heap.size, 0, none⟩) a a) w11 := by rw [ew11]; exact make_any w10 a (by omega) a rfl
  obtain ⟨hs10, hw10, kW10, hz10, hd10⟩ := H10.out
  obtain ⟨p2, p3, p4, p5, p6, p7, p8, p10, p11⟩ := HP.out
  have st11 : Step (fun _ => False) o9 w10 (tagN w10 0 o9) w11 := ⟨by rw [ew11]; exact (Same.refl _ w10).alloc _, fun k hk => tagN_old hk⟩
  have hW11 : WrT (tagN w10 0 o9) 4 w11 p sp wb (wB0 b a) false (.slice none 0 0) (.slice none 0 0) := ⟨hd10.on st11 (fun h => h) (fun h => h), hs10.on st11 (fun h => h), hw10.on st11 (fun h => h)⟩
  have src11 : Src8 (tagN w10 0 o9) 4 w11 (some ⟨w10.heap.size, 0, none⟩) a (List.replicate a 0) := by rw [ew11]; exact src_row
  have ht : Tg 4 := ⟨by decide, by decide, by decide⟩
  have hb16 := hd10.dv.good.b1
  have hi0 : WI (wB0 b a) := ⟨by show 0 < (rB2 b a).2.2.m.B; omega, fun e => absurd rfl e, by show 0 + (if ([] : List Int) = [] then 0 else _) = 0 * _ + 0; rw [if_pos rfl]; omega, (fun b hb => by cases hb), rfl, by show (List.replicate 8 false).length ≤ 4096; decide⟩
  have HW1 := write_ok8 hW11 ht hi0 (some ⟨w10.heap.size, 0, none⟩) a (List.replicate a 0) src11 (by show (rB2 b a).2.2.m.k + 2 * (List.replicate a (0 : Int)).length + 10 < _; rw [List.length_replicate]; omega) (by show 0 + (List.replicate a (0 : Int)).length ≤ _; rw [List.length_replicate]; omega)
  rw [List.length_replicate] at HW1
  have HW1' : Hid _ := HW1
  have hz11 : ∀ k, k < w.heap.size → tagN w10 0 o9 k = 0 := fun k hk => by
    rw [tagN_old (Nat.lt_of_lt_of_le hk kW10.size)]
    exact hz10 k hk
  have kW11 : Kept w w11 := kept_of kW10 st11 fun k hk h => h
  obtain ⟨g11, eg11⟩ : ∃ g, g = w10.heap.size := ⟨_, rfl⟩
  rw [← eg11] at hmk1 HW1'
  obtain ⟨o11, eo11⟩ : ∃ o, o = tagN w10 0 o9 := ⟨_, rfl⟩
  rw [← eo11] at HW1' hz11
  have H11 : Hid _ := And.intro hz11 (And.intro kW11 ht)
  clear hs10 hw10 kW10 hz10 hd10 p2 p3 p4 p5 p6 p7 p8 p10 p11 st11 hW11 src11 ht hb16 hi0 HW1 hz11 kW11 eg11 eo11 ew11 H10 HOF HLF
  go_wp2_with fail
  refine Calls.mono HW1'.out ?_
  rintro x w12 ⟨rfl, hlv, hwi⟩
  obtain ⟨p2, p3, p4, p5, p6, p7, p8, p10, p11⟩ := HP.out
  have e3 : wr (List.replicate a 0) (wB0 b a) = wB1 b a := rfl
  rw [e3] at hlv hwi ⊢
  rw [p3] at hwi ⊢
  obtain ⟨hi12, hz12s, hB12, hk12⟩ := hwi rfl
  obtain ⟨o12, bv12, gv12, st12, h12⟩ := hlv
  obtain ⟨hz11, kW11, ht⟩ := H11.out
  have kW12 : Kept w w12 := kept_of kW11 st12 fun k hk => by rw [hz11 k hk]; rintro (e | e | e) <;> omega
  have hz12 : ∀ k, k < w.heap.size → o12 k = 0 := fun k hk => (st12.tag k (Nat.lt_of_lt_of_le hk kW11.size)).trans (hz11 k hk)
  obtain ⟨w13, ew13⟩ : ∃ w13, w13 = w12.alloc (rowObj (List.replicate (112 - a) 0)) := ⟨_, rfl⟩
  have hsub2 : (112 : Int) - (a : Int) = ((112 - a : Nat) : Int) := by omega
  have hmk2 : (Instr.makeSlice 22 (.int .i64 ((112 - a : Nat) : Int)) (.int .i64 ((112 - a : Nat) : Int))).run Try.prog w12 = .ok (.slice (some ⟨w12.heap.size, 0, none⟩) (112 - a) (112 - a)) w13 := by rw [ew13]; exact make_any w12 (112 - a) (by omega) _ rfl
  have st13 : Step (fun _ => False) o12 w12 (tagN w12 0 o12) w13 := ⟨by rw [ew13]; exact (Same.refl _ w12).alloc _, fun k hk => tagN_old hk⟩
  have hW13 := h12.on st13 (fun h => h) (fun h => h) (fun h => h) (fun h => h)
  have src13 : Src8 (tagN w12 0 o12) 4 w13 (some ⟨w12.heap.size, 0, none⟩) (112 - a) (List.replicate (112 - a) 0) := by rw [ew13]; exact src_row
  have HW2 := write_ok8 hW13 ht hi12 (some ⟨w12.heap.size, 0, none⟩) (112 - a) (List.replicate (112 - a) 0) src13 (by rw [List.length_replicate]; omega) (by rw [List.length_replicate, hz12s, List.length_replicate]; show 0 + a + _ ≤ _; omega)
  rw [List.length_replicate] at HW2
  have HW2' : Hid _ := HW2
  have hz13 : ∀ k, k < w.heap.size → tagN w12 0 o12 k = 0 := fun k hk => by
    rw [tagN_old (Nat.lt_of_lt_of_le hk kW12.size)]
    exact hz12 k hk
  have kW13 : Kept w w13 := kept_of kW12 st13 fun k hk h => h
  have H13 : Hid _ := And.intro hz13 (And.intro kW13 ht)
  obtain ⟨m2, em2⟩ : ∃ m2, m2 = 112 - a := ⟨_, rfl⟩
  rw [← em2] at hsub2 hmk2 HW2'
  have EM2 : Hid _ := em2
  clear p2 p3 p4 p5 p6 p7 p8 p10 p11 e3 hi12 hz12s hB12 hk12 st12 h12 hz11 kW11 ht kW12 hz12 st13 hW13 src13 HW2 hz13 kW13 ew13 H11 HW1' hmk1 em2
  go_wp2_with fail
  refine Calls.mono HW2'.out ?_
  rintro x w14 ⟨rfl, hlv, -⟩
  obtain ⟨p2, p3, p4, p5, p6, p7, p8, p10, p11⟩ := HP.out
  have e4 : wr (List.replicate m2 0) (wB1 b a).2 = wB2 b a := by rw [EM2.out]; rfl
  rw [e4] at hlv ⊢
  rw [p4]
  obtain ⟨o14, bv14, gv14, st14, h14⟩ := hlv
  obtain ⟨hz13, kW13, -⟩ := H13.out
  have kW14 : Kept w w14 := kept_of kW13 st14 fun k hk => by rw [hz13 k hk]; rintro (e | e | e) <;> omega
  have hrf : refu (wB2 b a).2.br false = 38 := by rw [p5]; rfl
  have HCL := close_refused h14.wtr (by rw [hrf]; decide)
  rw [hrf] at HCL
  have HCL' : Hid _ := HCL
  have HLFT : Hid (∀ W, Kept w14 W → Calls Try.prog 26 #[.pointer (some ⟨sp, 0, none⟩)] W fun x w' => x = .returned (.int .i64 8) ∧ Kept W w') := fun W k => by
    have := sleft_any (h14.kept k).spc
    rw [p7] at this
    exact this
  have HWR3 : Hid (∀ W, Kept w14 W → ∀ v, Calls Try.prog 23 #[.pointer (some ⟨wb, 0, none⟩), v] W fun x w' => x = .returned (.int .i64 38) ∧ w' = W) := fun W k v => by
    have := write_refused (h14.kept k).wtr (by rw [hrf]; decide) v
    rw [hrf] at this
    exact this
  have HCN : Hid (∀ W, Kept w14 W → Calls Try.prog 19 #[.pointer (some ⟨p.db, 0, none⟩)] W fun x w' => x = .returned (.agg #[.int .i64 (wB2 b a).2.m.cI, .int .i64 (wB2 b a).2.m.cS, .int .i64 ((b : Int) + 1), .int .i64 (wB2 b a).2.m.cT]) ∧ Kept W w') := fun W k => by
    have := counts_any (h14.kept k).dv.dv
    rw [p8] at this
    exact this
  have KW14 : Hid _ := kW14
  clear p2 p3 p4 p5 p6 p7 p8 p10 p11 e4 st14 h14 hz13 kW13 kW14 hrf HCL H13 HP HW2' hmk2 hsub hsub2 EM2
  go_wp2_with fail
  refine Calls.mono HCL'.out ?_
  rintro x w15 ⟨rfl, k15⟩
  obtain ⟨w16, ew16⟩ : ∃ w16, w16 = w15.alloc (.cells #[.slice none 0 0, .int .i64 0] 60) := ⟨_, rfl⟩
  have k16 : Kept w14 w16 := by rw [ew16]; exact k15.alloc _
  have hbx : w16.heap[w15.heap.size]? = some (.cells #[.slice none 0 0, .int .i64 0] 60 (0, 0)) := by rw [ew16]; exact heap_new w15 _
  obtain ⟨fb, efb⟩ : ∃ fb, fb = w15.heap.size := ⟨_, rfl⟩
  rw [← efb] at hbx
  have e0 : w16.cell? ⟨fb, 0, none⟩ = some (.slice none 0 0) := (cell_of hbx 0).trans rfl
  have e1 : w16.cell? ⟨fb, 1, none⟩ = some (.int .i64 0) := (cell_of hbx 1).trans rfl
  have hl16 := lt_of_heap hbx
  have HAL : Hid _ := And.intro ew16 efb
  have HL2 : Hid _ := HLFT.out w16 k16
  have K16 : Hid _ := k16
  clear ew16 efb hbx k15 k16 HCL' HLFT
  unfold fileV
  go_upto_region 23 with fail
  rw [← HAL.out.1, ← HAL.out.2]
  go_wp2_with fail
  refine Calls.mono HL2.out ?_
  rintro x w17 ⟨rfl, k17⟩
  have HW4 : Hid _ := HWR3.out (w17.alloc (.cells #[.int .u8 1] 5)) ((K16.out.trans' k17).alloc _)
  have HC4 : Hid _ := HCN.out (w17.alloc (.cells #[.int .u8 1] 5)) ((K16.out.trans' k17).alloc _)
  have K17 : Hid _ := k17
  clear k17 HWR3 HCN HL2 e0 e1 hl16 HAL
  go_wp2_with fail
  refine Calls.mono (HW4.out _) ?_
  rintro x w18 ⟨rfl, e18⟩
  subst w18
  go_wp2_with fail
  refine Calls.mono HC4.out ?_
  rintro x w19 ⟨rfl, k19⟩
  have K19 : Hid _ := k19
  have hfld := fun W => field_cnt (.int .i64 (wB2 b a).2.m.cI) (.int .i64 (wB2 b a).2.m.cS) (.int .i64 ((b : Int) + 1)) (.int .i64 (wB2 b a).2.m.cT) W
  clear k19
  go_wp2_with fail
  go_ret
  exact ⟨by simp, (((KW14.out.trans' K16.out).trans' K17.out).alloc _).trans' K19.out⟩

set_option maxRecDepth 100000 in
set_option maxHeartbeats 800000 in
theorem broken_out (b a : Int) (h : ¬ (0 ≤ b ∧ b ≤ 5 ∧ 0 ≤ a ∧ a ≤ b * 16)) (w : World) : Calls Try.prog 7 #[.int .i64 b, .int .i64 a] w fun e w' => e = .returned (.bool true) ∧ Kept w w' := by
  have HAN : Hid _ := anchor_any8 w
  have hnot : ∀ (x : Bool) (w : World), (Op.unary .not (.bool x)).run Try.prog w = .ok (.bool (!x)) w := fun _ _ => rfl
  by_cases h1 : b < 0
  · have t1 : decide (b < 0) = true := decide_eq_true h1
    go_enter Try.func7, Try.ntmps7
    go_wp2_with fail
    refine Calls.mono HAN.out ?_
    rintro x w1 ⟨rfl, k1⟩
    have K1 : Hid _ := k1
    clear k1
    go_wp2_with fail
    go_ret
    exact ⟨rfl, K1.out⟩
  by_cases h2 : 5 < b
  · have t1 : decide (b < 0) = false := decide_eq_false h1
    have t2 : decide (b > 5) = true := decide_eq_true h2
    go_enter Try.func7, Try.ntmps7
    go_wp2_with fail
    refine Calls.mono HAN.out ?_
    rintro x w1 ⟨rfl, k1⟩
    have K1 : Hid _ := k1
    clear k1
    go_wp2_with fail
    go_ret
    exact ⟨rfl, K1.out⟩
  by_cases h3 : a < 0
  · have t1 : decide (b < 0) = false := decide_eq_false h1
    have t2 : decide (b > 5) = false := decide_eq_false h2
    have t3 : decide (a < 0) = true := decide_eq_true h3
    go_enter Try.func7, Try.ntmps7
    go_wp2_with fail
    refine Calls.mono HAN.out ?_
    rintro x w1 ⟨rfl, k1⟩
    have K1 : Hid _ := k1
    clear k1
    go_wp2_with fail
    go_ret
    exact ⟨rfl, K1.out⟩
  · have h4 : b * 16 < a := by omega
    have t1 : decide (b < 0) = false := decide_eq_false h1
    have t2 : decide (b > 5) = false := decide_eq_false h2
    have t3 : decide (a < 0) = false := decide_eq_false h3
    have t4 : decide (a > b * 16) = true := decide_eq_true h4
    have hwr : IntKind.i64.wrap (b * 16) = b * 16 := by rw [IntKind.wrap_i64]; omega
    go_enter Try.func7, Try.ntmps7
    go_wp2_with fail
    refine Calls.mono HAN.out ?_
    rintro x w1 ⟨rfl, k1⟩
    have K1 : Hid _ := k1
    clear k1
    go_wp2_with fail
    go_ret
    exact ⟨rfl, K1.out⟩
theorem broken_any (b a : Int) (w : World) : Calls Try.prog 7 #[.int .i64 b, .int .i64 a] w fun e w' => e = .returned (.bool true) ∧ Kept w w' := by
  by_cases h : 0 ≤ b ∧ b ≤ 5 ∧ 0 ≤ a ∧ a ≤ b * 16
  · obtain ⟨h1, h2, h3, h4⟩ := h
    obtain ⟨n, rfl⟩ := Int.eq_ofNat_of_zero_le h1
    obtain ⟨m, rfl⟩ := Int.eq_ofNat_of_zero_le h3
    exact broken_go n m (by omega) (by omega) w
  · exact broken_out b a h w
end Go.Proofs.Ytepdnmjolhfboaa
