/- What is proved: the law StreamRoom returns true and turns nothing that was there; no condition. -/
import Derived.Test.YtepdnmjolhfboaaSRoomM
namespace Go.Proofs.Ytepdnmjolhfboaa
open Go.RowKit

theorem make_n (w : World) (n : Nat) (hn : n ≤ 4194304) : (Instr.makeSlice 22 (.int .i64 (n : Int)) (.int .i64 (n : Int))).run Try.prog w = .ok (.slice (some ⟨w.heap.size, 0, none⟩) n n) (w.alloc (rowObj (List.replicate n 0))) := make_bytes w n hn
theorem src_row3 {o : Nat → Nat} {w : World} {n : Nat} : Src8 (tagN w 0 o) 3 (w.alloc (rowObj (List.replicate n 0))) (some ⟨w.heap.size, 0, none⟩) n (List.replicate n 0) := by
  have hr := heap_new w (rowObj (List.replicate n 0))
  exact ⟨bytes_row hr, fun k' hk => by
    obtain ⟨_, off, e⟩ := hk
    cases e
    rw [tagN_new (Nat.le_refl _)]
    rintro (e | e | e) <;> omega, by simp, (fun e => by cases e), (fun ad e => by cases e; rfl)⟩

set_option maxRecDepth 100000 in
set_option maxHeartbeats 3200000 in
theorem room_go (N n : Nat) (hN : N ≤ 100) (hn : n ≤ 2000) (w : World) : Calls Try.prog 6 #[.int .i64 (N : Int), .int .i64 (n : Int)] w fun e w' => e = .returned (.bool true) ∧ Kept w w' := by
  have HAN : Hid _ := anchor_any8 w
  have hnot : ∀ (x : Bool) (w : World), (Op.unary .not (.bool x)).run Try.prog w = .ok (.bool (!x)) w := fun _ _ => rfl
  have t1 : decide ((N : Int) < 0) = false := by simp
  have t2 : decide ((N : Int) > 100) = false := by simp; omega
  have t2' : ¬ ((N : Int) > 100) := by omega
  have t3 : decide ((n : Int) < 0) = false := by simp
  have t4 : decide ((n : Int) > 2000) = false := by simp; omega
  have t4' : ¬ ((n : Int) > 2000) := by omega
  go_enter Try.func6, Try.ntmps6
  go_wp2_with fail
  refine Calls.mono HAN.out ?_
  rintro x w1 ⟨rfl, k1⟩
  have HNW : Hid (Calls Try.prog 13 #[.agg #[.int .i64 16, .int .i64 (N : Int)], .slice none 0 0, .slice none 0 0, .slice none 0 0] w1 fun e w' => ∃ p, e = .returned (.tuple #[.pointer (some ⟨p.db, 0, none⟩), .int .i64 0]) ∧ Dv w' (M.made 16 N [] [] []) p ∧ (∀ k, Foot (M.made 16 N [] [] []) p k → w1.heap.size ≤ k) ∧ Kept w1 w') :=
    new_yes 16 N none none none 0 0 0 [] [] [] w1 (BytesAt.nil _ _) (BytesAt.nil _ _) (FaultsAt.nil _ _) (fun _ => ⟨rfl, rfl⟩) (fun _ => ⟨rfl, rfl⟩) ((by decide : ∀ N : Nat, N < 101 → chk (16 : Nat) N ([] : List Int).length ([] : List Int).length [] = 0) N (by omega))
  have K1 : Hid _ := k1
  clear k1 HAN
  go_wp2_with fail
  refine Calls.mono HNW.out ?_
  rintro x w2 ⟨p, rfl, h2, hf2, k2⟩
  have HS : Hid _ := nw_any (tagD p) N (by omega) w2
  have H2 : Hid _ := And.intro h2 (And.intro hf2 k2)
  clear h2 hf2 k2 HNW
  go_wp2_with fail
  refine Calls.mono HS.out ?_
  rintro x w3 ⟨sp, rfl, h3, k3, -⟩
  have HC : Hid _ := create_any (tagN w2 2 (tagD p)) 3 w3 p sp
  have H3 : Hid _ := And.intro h3 k3
  clear h3 k3 HS
  go_wp2_with fail
  refine Calls.mono HC.out ?_
  rintro x w4 ⟨wb, rfl, h4, k4, -⟩
  obtain ⟨hW, kW, hz⟩ := start8 H2.out.1 H2.out.2.1 H2.out.2.2 H3.out.1 H3.out.2 h4 k4
  have hz : ∀ k, k < w.heap.size → tagN w3 3 (tagN w2 2 (tagD p)) k = 0 := fun k hk => hz k (Nat.lt_of_lt_of_le hk K1.out.size)
  have kW : Kept w w4 := K1.out.trans' kW
  obtain ⟨w5, ew5⟩ : ∃ w5, w5 = w4.alloc (rowObj (List.replicate n 0)) := ⟨_, rfl⟩
  have hmk : (Instr.makeSlice 22 (.int .i64 (n : Int)) (.int .i64 (n : Int))).run Try.prog w4 = .ok (.slice (some ⟨w4.heap.size, 0, none⟩) n n) w5 := by rw [ew5]; exact make_n w4 n (by omega)
  obtain ⟨o4, eo4⟩ : ∃ o4, o4 = tagN w3 3 (tagN w2 2 (tagD p)) := ⟨_, rfl⟩
  rw [← eo4] at hW hz
  have st5 : Step (fun _ => False) o4 w4 (tagN w4 0 o4) w5 := ⟨by rw [ew5]; exact (Same.refl _ w4).alloc _, fun k hk => tagN_old hk⟩
  have hW5 := hW.on st5 (fun h => h) (fun h => h) (fun h => h) (fun h => h)
  have src5 : Src8 (tagN w4 0 o4) 3 w5 (some ⟨w4.heap.size, 0, none⟩) n (List.replicate n 0) := by rw [ew5]; exact src_row3
  have ht : Tg 3 := ⟨by decide, by decide, by decide⟩
  have hi0 : WI (s0R N) := ⟨by show 0 < 16; omega, fun e => absurd rfl e, by show 0 + (if ([] : List Int) = [] then 0 else _) = 0 * _ + 0; rw [if_pos rfl]; omega, (fun b hb => by cases hb), rfl, by show (List.replicate N false).length ≤ 4096; rw [List.length_replicate]; omega⟩
  have HW1 := write_ok8 (s := s0R N) hW5 ht hi0 (some ⟨w4.heap.size, 0, none⟩) n (List.replicate n 0) src5 (by show 0 + 2 * (List.replicate n (0 : Int)).length + 10 < _; rw [List.length_replicate]; omega) (by show 0 + (List.replicate n (0 : Int)).length ≤ _; rw [List.length_replicate]; omega)
  rw [List.length_replicate] at HW1
  have HW1' : Hid _ := HW1
  have hz5 : ∀ k, k < w.heap.size → tagN w4 0 o4 k = 0 := fun k hk => by
    rw [tagN_old (Nat.lt_of_lt_of_le hk kW.size)]
    exact hz k hk
  have kW5 : Kept w w5 := kept_of kW st5 fun k hk h => h
  have H5 : Hid _ := And.intro hz5 (And.intro kW5 ht)
  clear h4 k4 hW kW hz st5 hW5 src5 ht hi0 HW1 hz5 kW5 eo4 ew5 H2 H3 HC K1
  go_wp2_with fail
  refine Calls.mono HW1'.out ?_
  rintro x w6 ⟨rfl, hlv, hwi⟩
  obtain ⟨hz5, kW5, ht⟩ := H5.out
  obtain ⟨need, eneed⟩ : ∃ need, need = nblk n 16 := ⟨_, rfl⟩
  have hnd : nblk n 16 = (n + 15) / 16 := rfl
  have hq : ((n : Int) + 15).tdiv 16 = (need : Int) := by rw [eneed, hnd]; rfl
  have hlen : (List.replicate n (0 : Int)).length = n := List.length_replicate
  have hnb : need ≤ 200 := by omega
  by_cases hc : 16 * N < n
  · obtain ⟨s, e1, q1, q2, q3, q4, q5⟩ := room_no (N := N) (l := List.replicate n 0) (by rw [hlen]; exact hc)
    rw [e1] at hlv ⊢
    obtain ⟨o6, bv6, gv6, st6, h6⟩ := hlv
    have kW6 : Kept w w6 := kept_of kW5 st6 fun k hk => by rw [hz5 k hk]; rintro (e | e | e) <;> omega
    have hrf : refu s.br false = 42 := by rw [q4]; rfl
    have HCL : Hid (∀ W, Kept w6 W → Calls Try.prog 25 #[.pointer (some ⟨wb, 0, none⟩)] W fun x w' => x = .returned (.tuple #[.agg #[.slice none 0 0, .int .i64 0], .int .i64 42]) ∧ Kept W w') := fun W k => by
      have := close_refused (h6.kept k).wtr (by rw [hrf]; decide)
      rw [hrf] at this
      exact this
    have HLF : Hid (∀ W, Kept w6 W → Calls Try.prog 26 #[.pointer (some ⟨sp, 0, none⟩)] W fun x w' => x = .returned (.int .i64 N) ∧ Kept W w') := fun W k => by
      have := sleft_any (h6.kept k).spc
      rw [q5, fcnt_false] at this
      exact this
    have HSZ : Hid (∀ W, Kept w6 W → Calls Try.prog 24 #[.pointer (some ⟨wb, 0, none⟩)] W fun x w' => x = .returned (.int .i64 0) ∧ w' = W) := fun W k => by
      have := size_any8 (h6.kept k).wtr
      rw [q3] at this
      exact this
    have HWR : Hid (∀ W, Kept w6 W → ∀ v, Calls Try.prog 23 #[.pointer (some ⟨wb, 0, none⟩), v] W fun x w' => x = .returned (.int .i64 42) ∧ w' = W) := fun W k v => by
      have := write_refused (h6.kept k).wtr (by rw [hrf]; decide) v
      rw [hrf] at this
      exact this
    have KW6 : Hid _ := kW6
    have hgt : decide ((need : Int) > (N : Int)) = true := by simp; omega
    have hgt' : (need : Int) > (N : Int) := by omega
    clear e1 q1 q2 q3 q4 q5 st6 h6 kW6 hrf hwi hz5 kW5 ht H5 HW1' hmk hlen hnd eneed hc
    go_wp2_with fail
    refine Calls.mono (HCL.out w6 (Same.refl _ _)) ?_
    rintro x w7 ⟨rfl, k7⟩
    have HCL2 : Hid _ := HCL.out (w7.alloc (.cells #[.slice none 0 0, .int .i64 0] 60)) (k7.alloc _)
    have K7 : Hid _ := k7
    clear k7 HCL
    go_wp2_with fail
    refine Calls.mono HCL2.out ?_
    rintro x w8 ⟨rfl, k8⟩
    have k68 : Kept w6 (w8.alloc (.cells #[.slice none 0 0, .int .i64 0] 60)) := ((K7.out.alloc _).trans' k8).alloc _
    have HLF2 : Hid _ := HLF.out _ k68
    have K8 : Hid _ := k68
    clear k8 k68 HCL2 HLF K7
    go_wp2_with fail
    refine Calls.mono HLF2.out ?_
    rintro x w9 ⟨rfl, k9⟩
    have HSZ2 : Hid _ := HSZ.out w9 (K8.out.trans' k9)
    have HWR2 : Hid _ := HWR.out w9 (K8.out.trans' k9)
    have K9 : Hid _ := K8.out.trans' k9
    clear k9 HLF2 HSZ HWR K8
    go_wp2_with fail
    refine Calls.mono HSZ2.out ?_
    rintro x w9' ⟨rfl, e9⟩
    subst w9'
    go_wp2_with fail
    refine Calls.mono (HWR2.out _) ?_
    rintro x w9' ⟨rfl, e9⟩
    subst w9'
    go_wp2_with fail
    go_ret
    exact ⟨rfl, KW6.out.trans' K9.out⟩
  · have hle : need ≤ N := by omega
    obtain ⟨s, e1, f1, f2, f3, f4⟩ := room_yes (N := N) (l := List.replicate n 0) (by rw [hlen, ← eneed]; exact hle)
    rw [hlen, ← eneed] at f2 f3
    rw [e1] at hlv hwi ⊢
    obtain ⟨hi6, hsz6, -, hk6⟩ := hwi rfl
    obtain ⟨o6, bv6, gv6, st6, h6⟩ := hlv
    have kW6 : Kept w w6 := kept_of kW5 st6 fun k hk => by rw [hz5 k hk]; rintro (e | e | e) <;> omega
    have hz6 : ∀ k, k < w.heap.size → o6 k = 0 := fun k hk => (st6.tag k (Nat.lt_of_lt_of_le hk kW5.size)).trans (hz5 k hk)
    rw [hlen] at hsz6 hk6
    have hk6' : s.m.k ≤ 0 + 2 * n := hk6
    have hsz6' : s.sz = 0 + n := hsz6
    have HCL : Hid (Calls Try.prog 25 #[.pointer (some ⟨wb, 0, none⟩)] w6 (CloseP o6 3 w6 p sp wb s)) := by
      by_cases hg : s.bg = []
      · exact close_none h6 ht hi6 hg
      · exact close_some h6 ht hi6 hg (by omega) (by omega)
    have H6 : Hid _ := And.intro kW6 (And.intro hz6 (And.intro f1 (And.intro f2 (And.intro f3 f4))))
    have hgt : decide ((need : Int) > (N : Int)) = false := by simp; omega
    have hgt' : ¬ ((need : Int) > (N : Int)) := by omega
    have hsub : (N : Int) - (need : Int) = ((N - need : Nat) : Int) := by omega
    clear e1 f1 f2 f3 f4 st6 h6 kW6 hz6 hwi hi6 hsz6 hk6 hk6' hsz6' hz5 kW5 ht H5 HW1' hmk hlen hnd eneed hc
    go_wp2_with fail
    refine Calls.mono HCL.out ?_
    obtain ⟨kW6, hz6, f1, f2, f3, f4⟩ := H6.out
    rintro x w7 (⟨hne, -⟩ | ⟨-, o7, fa, fc, rfl, st7, hown, hbk, h7⟩)
    · exact absurd f1 hne
    rw [f2, nums_len] at hown hbk ⊢
    have kW7 : Kept w w7 := kept_of kW6 st7 fun k hk => by rw [hz6 k hk]; rintro (e | e | e) <;> omega
    have hz7 : ∀ k, k < w.heap.size → o7 k = 0 := fun k hk => (st7.tag k (Nat.lt_of_lt_of_le hk kW6.size)).trans (hz6 k hk)
    have hown' : OwnI 0 w7 (.slice fa need fc) (nums 0 need) := hown
    obtain ⟨fa', fc', efa, hnm, -, hnl, hib⟩ := OwnI.nums hown'
    rw [nums_len] at efa hib hnl
    simp only [Value.slice.injEq, true_and] at efa
    obtain ⟨rfl, rfl⟩ := efa
    have hsp7 : SpT o7 w7 sp (used N need) := by
      have := h7.spc
      rw [show ({ s.fill.2 with bl := [], bg := [] } : WrS).u = used N need from f3] at this
      exact this
    have hrf : refu s.fill.2.br true = 82 := by rw [f4]; rfl
    have hwt7 := h7.wtr
    obtain ⟨zz, ezz⟩ : ∃ zz, zz = s.sz := ⟨_, rfl⟩
    rw [← ezz]
    obtain ⟨w8, ew8⟩ : ∃ w8, w8 = w7.alloc (.cells #[.slice fa need fc, .int .i64 zz] 60) := ⟨_, rfl⟩
    have k8 : Kept w7 w8 := by rw [ew8]; exact (Same.refl _ w7).alloc _
    obtain ⟨fb, efb⟩ : ∃ fb, fb = w7.heap.size := ⟨_, rfl⟩
    have hbx : w8.heap[fb]? = some (.cells #[.slice fa need fc, .int .i64 zz] 60 (0, 0)) := by rw [ew8, efb]; exact heap_new w7 _
    have HAL : Hid _ := And.intro ew8 efb
    have HFB : Hid _ := efb
    have HX : Hid (∀ W, Kept w8 W → W.cell? ⟨fb, 0, none⟩ = some (.slice fa need fc) ∧ W.cell? ⟨fb, 1, none⟩ = some (.int .i64 zz) ∧ fb < W.heap.size) := fun W k => by
      have := (k.block fb (lt_of_heap hbx) (fun h => h)).trans hbx
      exact ⟨(cell_of this 0).trans rfl, (cell_of this 1).trans rfl, lt_of_heap this⟩
    have hw8 : ∀ W, Kept w8 W → Step (fun _ => False) o7 w7 o7 W := fun W k => ⟨k8.trans' k, fun _ _ => rfl⟩
    have HC2 : Hid (∀ W, Kept w8 W → Calls Try.prog 25 #[.pointer (some ⟨wb, 0, none⟩)] W fun x w' => x = .returned (.tuple #[.agg #[.slice none 0 0, .int .i64 0], .int .i64 82]) ∧ Kept W w') := fun W k => by
      have := close_refused (hwt7.on (hw8 W k) (fun h => h)) (by show refu s.fill.2.br true ≠ 0; rw [hrf]; decide)
      rw [show refu ({ s.fill.2 with bl := [], bg := [] } : WrS).br true = 82 from hrf] at this
      exact this
    have HWR : Hid (∀ W, Kept w8 W → ∀ v, Calls Try.prog 23 #[.pointer (some ⟨wb, 0, none⟩), v] W fun x w' => x = .returned (.int .i64 82) ∧ w' = W) := fun W k v => by
      have := write_refused (hwt7.on (hw8 W k) (fun h => h)) (by show refu s.fill.2.br true ≠ 0; rw [hrf]; decide) v
      rw [show refu ({ s.fill.2 with bl := [], bg := [] } : WrS).br true = 82 from hrf] at this
      exact this
    have HLF : Hid (∀ W, Kept w8 W → Calls Try.prog 26 #[.pointer (some ⟨sp, 0, none⟩)] W fun x w' => x = .returned (.int .i64 (N - need : Nat)) ∧ Kept W w') := fun W k => by
      have := sleft_any (hsp7.on (hw8 W k) (fun h => h))
      rw [fcnt_used] at this
      exact this
    have hnm2 : ∀ (o9 : Nat → Nat) (W : World), Step (fun n => n = 2) o7 w7 o9 W → NumsAt W fa (nums 0 need) ∧ ∀ k, InB fa (nums 0 need).length k → o9 k ≠ 2 := fun o9 W st => by
      have h3 : ∀ k, InB fa (nums 0 need).length k → o7 k = 3 := fun k hk => by
        rw [nums_len] at hk
        exact (hbk k (hib k hk)).1
      refine ⟨hnm.kept st.same fun k hk => by rw [h3 k hk]; decide, fun k hk => ?_⟩
      rw [st.tag k (hnm.lt hk), h3 k hk]
      decide
    have HDR : Hid (∀ (o9 : Nat → Nat) (W : World) (u : List Bool), Step (fun n => n = 2) o7 w7 o9 W → SpT o9 W sp u → Calls Try.prog 28 #[.pointer (some ⟨sp, 0, none⟩), .agg #[.slice fa need fc, .int .i64 zz]] W (DropP o9 W sp u (nums 0 need))) := fun o9 W u st hsp => by
      obtain ⟨n1, n2⟩ := hnm2 o9 W st
      have := drop_any hsp fa fc zz (nums 0 need) n1 n2 (by rw [nums_len]; omega) (fun b hb => by have := nums_mem hb; omega)
      rw [nums_len] at this
      exact this
    have H7 : Hid _ := And.intro kW7 (And.intro hz7 (And.intro hsp7 k8))
    clear kW6 hz6 f1 f2 f3 f4 hown hbk h7 st7 kW7 hz7 hown' hnm hnl hib hsp7 hrf hwt7 ezz ew8 k8 efb hbx hw8 hnm2 H6 HCL
    unfold fileV
    go_upto_region 14 with fail
    rw [← HAL.out.1, ← HAL.out.2]
    go_wp2_with fail
    refine Calls.mono (HC2.out w8 (Same.refl _ _)) ?_
    rintro x w9 ⟨rfl, k9⟩
    obtain ⟨w10, ew10⟩ : ∃ w10, w10 = w9.alloc (.cells #[.slice none 0 0, .int .i64 0] 60) := ⟨_, rfl⟩
    have k10 : Kept w8 w10 := by rw [ew10]; exact k9.alloc _
    have EW10 : Hid _ := ew10
    have HWR2 : Hid _ := HWR.out w10 k10
    have HLF2 : Hid _ := HLF.out w10 k10
    have K10 : Hid _ := k10
    clear k9 ew10 k10 HC2 HWR HLF HAL
    go_upto_region 15 with fail
    rw [← EW10.out]
    go_wp2_with fail
    refine Calls.mono (HWR2.out _) ?_
    rintro x w10' ⟨rfl, e10⟩
    subst w10'
    go_wp2_with fail
    refine Calls.mono HLF2.out ?_
    rintro x w11 ⟨rfl, k11⟩
    obtain ⟨kW7, hz7, hsp7, k8⟩ := H7.out
    have k811 := K10.out.trans' k11
    obtain ⟨x0, x1, xl⟩ := HX.out w11 k811
    have st11 : Step (fun n => n = 2) o7 w7 (tagN w7 0 o7) w11 := ⟨Kept.to (k8.trans' k811) _, fun k hk => tagN_old hk⟩
    have hsp11 : SpT (tagN w7 0 o7) w11 sp (used N need) := hsp7.on (S := fun _ => False) ⟨k8.trans' k811, fun k hk => tagN_old hk⟩ (fun h => h)
    have HD1 : Hid _ := HDR.out (tagN w7 0 o7) w11 (used N need) st11 hsp11
    have hz11 : ∀ k, k < w.heap.size → tagN w7 0 o7 k = 0 := fun k hk => by
      rw [tagN_old (Nat.lt_of_lt_of_le hk kW7.size)]
      exact hz7 k hk
    have hfb : tagN w7 0 o7 fb = 0 := tagN_new (by rw [HFB.out]; exact Nat.le_refl _)
    have H11 : Hid _ := And.intro k811 (And.intro (kW7.trans' (k8.trans' k811)) (And.intro hz11 (And.intro st11 hfb)))
    clear k11 kW7 hz7 hsp7 k8 k811 st11 hsp11 hz11 hfb K10 HWR2 HLF2 H7 EW10 HFB
    go_wp2_with fail
    refine Calls.mono HD1.out ?_
    rintro x w12 ⟨rfl, o12, hs12, st12⟩
    rw [drops_used, false_app hle] at hs12 ⊢
    obtain ⟨k811, kW11, hz7, st11, hfb⟩ := H11.out
    have HL3 := sleft_any hs12
    rw [fcnt_false] at HL3
    have HL3' : Hid _ := HL3
    have hsz11 : w.heap.size ≤ w11.heap.size := kW11.size
    have kW12 : Kept w w12 := kept_of kW11 st12 fun k hk => by rw [hz7 k hk]; decide
    have hbx12 : w12.cell? ⟨fb, 0, none⟩ = some (.slice fa need fc) ∧ w12.cell? ⟨fb, 1, none⟩ = some (.int .i64 zz) ∧ fb < w12.heap.size := by
      obtain ⟨x0, x1, xl⟩ := HX.out w11 k811
      have hn : ¬ (tagN w7 0 o7 fb = 2) := by rw [hfb]; decide
      exact ⟨(st12.same.cell (p := ⟨fb, 0, none⟩) xl hn).trans x0, (st12.same.cell (p := ⟨fb, 1, none⟩) xl hn).trans x1, Nat.lt_of_lt_of_le xl st12.same.size⟩
    have hz12 : ∀ k, k < w.heap.size → o12 k = 0 := fun k hk => (st12.tag k (Nat.lt_of_lt_of_le hk kW11.size)).trans (hz7 k hk)
    have H12 : Hid _ := And.intro kW12 (And.intro hs12 (And.intro (st11.trans st12) (And.intro hbx12 hz12)))
    clear hbx12 hz12 hfb k811 kW11 hz7 st11 HL3 hsz11 kW12 hs12 st12 H11 HD1 x0 x1 xl
    go_wp2_with fail
    refine Calls.mono HL3'.out ?_
    rintro x w13 ⟨rfl, k13⟩
    by_cases h0 : need = 0
    · subst h0
      have K13 : Hid _ := k13
      clear k13
      go_wp2_with fail
      go_ret
      exact ⟨rfl, H12.out.1.trans' K13.out⟩
    · have h0' : ((need : Int) == 0) = false := by simp; omega
      have h0n : ¬ ((need : Int) = 0) := by omega
      obtain ⟨kW12, hs12, st02, ⟨y0, y1, yl⟩, hz12⟩ := H12.out
      have st13 : Step (fun n => n = 2) o7 w7 o12 w13 := st02.trans (Step.kept k13)
      have hs13 : SpT o12 w13 sp (List.replicate N false) := hs12.on (S := fun _ => False) ⟨k13, fun _ _ => rfl⟩ (fun h => h)
      have HD2 : Hid _ := HDR.out o12 w13 (List.replicate N false) st13 hs13
      have x0 : w13.cell? ⟨fb, 0, none⟩ = some (.slice fa need fc) := (k13.cell (p := ⟨fb, 0, none⟩) yl (fun h => h)).trans y0
      have x1 : w13.cell? ⟨fb, 1, none⟩ = some (.int .i64 zz) := (k13.cell (p := ⟨fb, 1, none⟩) yl (fun h => h)).trans y1
      have xl : fb < w13.heap.size := Nat.lt_of_lt_of_le yl k13.size
      have KW13 : Hid _ := And.intro (kW12.trans' k13) hz12
      have hd44 := drops_twice hle (show 0 < need by omega)
      have HD44 : Hid _ := hd44
      clear kW12 hs12 st02 y0 y1 yl hz12 st13 hs13 k13 hd44 H12 HDR HX HL3'
      go_wp2_with fail
      refine Calls.mono HD2.out ?_
      rintro x w14 ⟨rfl, o14, hs14, st14⟩
      rw [HD44.out]
      have KW14 : Hid (Kept w w14) := kept_of KW13.out.1 st14 fun k hk => by rw [KW13.out.2 k hk]; decide
      clear hs14 st14 x0 x1 xl HD2
      go_wp2_with fail
      go_ret
      exact ⟨rfl, KW14.out⟩

set_option maxRecDepth 100000 in
set_option maxHeartbeats 800000 in
theorem room_out (b a : Int) (h : ¬ (0 ≤ b ∧ b ≤ 100 ∧ 0 ≤ a ∧ a ≤ 2000)) (w : World) : Calls Try.prog 6 #[.int .i64 b, .int .i64 a] w fun e w' => e = .returned (.bool true) ∧ Kept w w' := by
  have HAN : Hid _ := anchor_any8 w
  have hnot : ∀ (x : Bool) (w : World), (Op.unary .not (.bool x)).run Try.prog w = .ok (.bool (!x)) w := fun _ _ => rfl
  by_cases h1 : b < 0
  · have t1 : decide (b < 0) = true := decide_eq_true h1
    go_enter Try.func6, Try.ntmps6
    go_wp2_with fail
    refine Calls.mono HAN.out ?_
    rintro x w1 ⟨rfl, k1⟩
    have K1 : Hid _ := k1
    clear k1
    go_wp2_with fail
    go_ret
    exact ⟨rfl, K1.out⟩
  by_cases h2 : 100 < b
  · have t1 : decide (b < 0) = false := decide_eq_false h1
    have t2 : decide (b > 100) = true := decide_eq_true h2
    go_enter Try.func6, Try.ntmps6
    go_wp2_with fail
    refine Calls.mono HAN.out ?_
    rintro x w1 ⟨rfl, k1⟩
    have K1 : Hid _ := k1
    clear k1
    go_wp2_with fail
    go_ret
    exact ⟨rfl, K1.out⟩
  by_cases h3 : a < 0
  · have t1 : decide (b < 0) = false := decide_eq_false h1
    have t2 : decide (b > 100) = false := decide_eq_false h2
    have t3 : decide (a < 0) = true := decide_eq_true h3
    go_enter Try.func6, Try.ntmps6
    go_wp2_with fail
    refine Calls.mono HAN.out ?_
    rintro x w1 ⟨rfl, k1⟩
    have K1 : Hid _ := k1
    clear k1
    go_wp2_with fail
    go_ret
    exact ⟨rfl, K1.out⟩
  · have h4 : 2000 < a := by omega
    have t1 : decide (b < 0) = false := decide_eq_false h1
    have t2 : decide (b > 100) = false := decide_eq_false h2
    have t3 : decide (a < 0) = false := decide_eq_false h3
    have t4 : decide (a > 2000) = true := decide_eq_true h4
    go_enter Try.func6, Try.ntmps6
    go_wp2_with fail
    refine Calls.mono HAN.out ?_
    rintro x w1 ⟨rfl, k1⟩
    have K1 : Hid _ := k1
    clear k1
    go_wp2_with fail
    go_ret
    exact ⟨rfl, K1.out⟩
theorem room_any8 (b a : Int) (w : World) : Calls Try.prog 6 #[.int .i64 b, .int .i64 a] w fun e w' => e = .returned (.bool true) ∧ Kept w w' := by
  by_cases h : 0 ≤ b ∧ b ≤ 100 ∧ 0 ≤ a ∧ a ≤ 2000
  · obtain ⟨h1, h2, h3, h4⟩ := h
    obtain ⟨n, rfl⟩ := Int.eq_ofNat_of_zero_le h1
    obtain ⟨m, rfl⟩ := Int.eq_ofNat_of_zero_le h3
    exact room_go n m (by omega) (by omega) w
  · exact room_out b a h w
end Go.Proofs.Ytepdnmjolhfboaa
