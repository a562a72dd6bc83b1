/- What is proved: report's lines of violations and outcomes are appended; conditions: lengths, and that the tables lie as their texts lay them. -/
import Derived.Test.YtfhaiklfbnfdlaaDoorRoA
import Derived.Deep.DeepCutAuto
namespace Go.Proofs.YtfhaiklfbnfdlaaDoor
open Go.RowKit

/-- A violation's line. -/
def vioL (x : Vi.Vl) : List UInt8 := vWord x.kd ++ numL [32, 116, 105, 109, 101, 32] x.tm ++ numL [32, 116, 120, 110, 32] x.tx ++ plcL [32, 111, 112, 32] x.op ++ plcL [32, 119, 105, 116, 110, 101, 115, 115, 32] x.wi ++ vaL [32, 107, 101, 121, 32] true (bt x.key) ++ vaL [32, 119, 97, 110, 116, 32] x.wa (bt x.ex) ++ vaL [32, 103, 111, 116, 32] x.go (bt x.ob) ++ numL [32, 102, 114, 111, 109, 32] x.fr ++ (numL [32, 116, 111, 32] x.tt ++ [10])
theorem vl_obj {w : World} {b : Nat} {v0 v1 v2 v3 v4 v5 v6 v7 v8 v9 va vb : Value} {T : TypeId} (h : w.heap[b]? = some (.cells #[v0, v1, v2, v3, v4, v5, v6, v7, v8, v9, va, vb] T (0, 0))) :
    w.cell? ⟨b, 0, none⟩ = some v0 ∧ w.cell? ⟨b, 1, none⟩ = some v1 ∧ w.cell? ⟨b, 2, none⟩ = some v2 ∧ w.cell? ⟨b, 3, none⟩ = some v3 ∧ w.cell? ⟨b, 4, none⟩ = some v4 ∧ w.cell? ⟨b, 5, none⟩ = some v5 ∧ w.cell? ⟨b, 6, none⟩ = some v6 ∧ w.cell? ⟨b, 7, none⟩ = some v7 ∧ w.cell? ⟨b, 8, none⟩ = some v8 ∧ w.cell? ⟨b, 9, none⟩ = some v9 ∧ w.cell? ⟨b, 10, none⟩ = some va ∧ w.cell? ⟨b, 11, none⟩ = some vb :=
  ⟨(cell_of h 0).trans rfl, (cell_of h 1).trans rfl, (cell_of h 2).trans rfl, (cell_of h 3).trans rfl, (cell_of h 4).trans rfl, (cell_of h 5).trans rfl, (cell_of h 6).trans rfl, (cell_of h 7).trans rfl, (cell_of h 8).trans rfl, (cell_of h 9).trans rfl, (cell_of h 10).trans rfl, (cell_of h 11).trans rfl⟩
theorem numL_le {p : List UInt8} {n : Int} (hp : p.length ≤ 10) (h0 : -9223372036854775808 ≤ n) (h1 : n ≤ 9223372036854775807) : (numL p n).length ≤ 31 := by
  have := itoa_len21 h0 h1
  unfold numL
  rw [List.length_append]
  omega
theorem plcL_le {p : List UInt8} {n : Int} (hp : p.length ≤ 10) (h0 : -9223372036854775808 ≤ n) (h1 : n ≤ 9223372036854775807) : (plcL p n).length ≤ 31 := by
  unfold plcL
  split
  · rw [List.length_append]; simp only [List.length_cons, List.length_nil]; omega
  · exact numL_le hp h0 h1
theorem vaL_le {p : List UInt8} {th : Bool} {s : List UInt8} (hp : p.length ≤ 10) (hs : s.length ≤ 16) : (vaL p th s).length ≤ 43 := by
  have := wd_len s
  unfold vaL
  rw [List.length_append]
  split
  · omega
  · simp only [List.length_cons, List.length_nil]; omega
theorem vWord_le (k : Int) : (vWord k).length ≤ 8 := by
  unfold vWord
  split
  · rename_i h
    have h1 := Vi.wi_iff.1 h
    have h2 : (k - 1).toNat < 10 := by omega
    generalize (k - 1).toNat = i at h2
    match i, h2 with
    | 0, _ | 1, _ | 2, _ | 3, _ | 4, _ | 5, _ | 6, _ | 7, _ | 8, _ | 9, _ => decide
  · exact Nat.zero_le _
set_option maxRecDepth 100000 in
set_option maxHeartbeats 3200000 in
theorem appViol22 {w : World} {base : Nat} {v : Value} {xs : List Int} (x : Vi.Vl) (hx : Vi.okV x = true) (hown : OwnB base w v xs) (hb : xs.length + 2048 ≤ 140737488355328) (hbase : base ≤ w.heap.size) (ht : Tab base w) (hw : Wds w) :
    Calls Tryd.prog 41 #[v, Vi.vlV x] w fun e w' => ∃ v', e = .returned v' ∧ ApO base w (xs ++ nu (vioL x)) v' w' := by
  have ho := Vi.okV_iff x |>.1 hx
  obtain ⟨kd, tm, txi, op, wit, key, wa, ex, gg, ob, fr, tt⟩ := x
  unfold Vi.vlV vioL
  dsimp only at ho ⊢
  obtain ⟨h0, h1, h2, h3, h4, h5, h6, h7, h8, h9⟩ := ho
  have hiv : (bt ex).length ≤ 16 ∧ (bt ob).length ≤ 16 ∧ (bt key).length ≤ 16 := by
    rw [bt_len, bt_len, bt_len]
    exact ⟨h8.1, h9.1, by omega⟩
  have hk1 : Vi.wi kd 1 10 = true := Vi.wi_iff.2 h0
  obtain ⟨i, rfl⟩ : ∃ i : Nat, kd = (i : Int) + 1 := ⟨(kd - 1).toNat, by omega⟩
  have hi : i < 10 := by omega
  have HWI : Hid (Wds w) := hw
  have hcg := hw.2 i (vWord ((i : Int) + 1)) (by
    unfold vWord
    rw [if_pos hk1, show ((i : Int) + 1 - 1).toNat = i by omega, List.getD_eq_getElem?_getD, List.getElem?_eq_getElem (by show i < 10; exact hi)]
    rfl)
  have P0 : (vWord ((i : Int) + 1)).length ≤ 64 := Nat.le_trans (vWord_le _) (by decide)
  have P1 : (numL [32, 116, 105, 109, 101, 32] tm).length ≤ 64 := Nat.le_trans (numL_le (by decide) (by omega) (by omega)) (by decide)
  have P2 : (numL [32, 116, 120, 110, 32] txi).length ≤ 64 := Nat.le_trans (numL_le (by decide) (by omega) (by omega)) (by decide)
  have P3 : (plcL [32, 111, 112, 32] op).length ≤ 64 := Nat.le_trans (plcL_le (by decide) (by omega) (by omega)) (by decide)
  have P4 : (plcL [32, 119, 105, 116, 110, 101, 115, 115, 32] wit).length ≤ 64 := Nat.le_trans (plcL_le (by decide) (by omega) (by omega)) (by decide)
  have P5 : (vaL [32, 107, 101, 121, 32] true (bt key)).length ≤ 64 := Nat.le_trans (vaL_le (by decide) (by first | exact hiv.1 | exact hiv.2.1 | exact hiv.2.2)) (by decide)
  have P6 : (vaL [32, 119, 97, 110, 116, 32] wa (bt ex)).length ≤ 64 := Nat.le_trans (vaL_le (by decide) (by first | exact hiv.1 | exact hiv.2.1 | exact hiv.2.2)) (by decide)
  have P7 : (vaL [32, 103, 111, 116, 32] gg (bt ob)).length ≤ 64 := Nat.le_trans (vaL_le (by decide) (by first | exact hiv.1 | exact hiv.2.1 | exact hiv.2.2)) (by decide)
  have P8 : (numL [32, 102, 114, 111, 109, 32] fr).length ≤ 64 := Nat.le_trans (numL_le (by decide) (by omega) (by omega)) (by decide)
  have P9 : (numL [32, 116, 111, 32] tt ++ [10]).length ≤ 64 := by have := numL_le (p := [32, 116, 111, 32]) (n := tt) (by decide) (by omega) (by omega); rw [List.length_append]; simp only [List.length_cons, List.length_nil]; omega
  have H1 : Hid (∀ W v ys, OwnB base W v ys → Oth base w W → ys.length + 64 ≤ 140737488355328 → Calls Tryd.prog 56 #[v, tx [32, 116, 105, 109, 101, 32], .int .i64 tm] W fun e w' => ∃ v', e = .returned v' ∧ ApO base W (ys ++ nu (numL [32, 116, 105, 109, 101, 32] tm)) v' w') := fun W v ys o k hy => rappNum [32, 116, 105, 109, 101, 32] tm (by omega) (by omega) o (by decide) hy (Nat.le_trans hbase k.1.size) (ht.on (k.below hbase))
  have H2 : Hid (∀ W v ys, OwnB base W v ys → Oth base w W → ys.length + 64 ≤ 140737488355328 → Calls Tryd.prog 56 #[v, tx [32, 116, 120, 110, 32], .int .i64 txi] W fun e w' => ∃ v', e = .returned v' ∧ ApO base W (ys ++ nu (numL [32, 116, 120, 110, 32] txi)) v' w') := fun W v ys o k hy => rappNum [32, 116, 120, 110, 32] txi (by omega) (by omega) o (by decide) hy (Nat.le_trans hbase k.1.size) (ht.on (k.below hbase))
  have H3 : Hid (∀ W v ys, OwnB base W v ys → Oth base w W → ys.length + 64 ≤ 140737488355328 → Calls Tryd.prog 57 #[v, tx [32, 111, 112, 32], .int .i64 op] W fun e w' => ∃ v', e = .returned v' ∧ ApO base W (ys ++ nu (plcL [32, 111, 112, 32] op)) v' w') := fun W v ys o k hy => rappPlace [32, 111, 112, 32] op (by omega) (by omega) o (by decide) hy (Nat.le_trans hbase k.1.size) (ht.on (k.below hbase))
  have H4 : Hid (∀ W v ys, OwnB base W v ys → Oth base w W → ys.length + 64 ≤ 140737488355328 → Calls Tryd.prog 57 #[v, tx [32, 119, 105, 116, 110, 101, 115, 115, 32], .int .i64 wit] W fun e w' => ∃ v', e = .returned v' ∧ ApO base W (ys ++ nu (plcL [32, 119, 105, 116, 110, 101, 115, 115, 32] wit)) v' w') := fun W v ys o k hy => rappPlace [32, 119, 105, 116, 110, 101, 115, 115, 32] wit (by omega) (by omega) o (by decide) hy (Nat.le_trans hbase k.1.size) (ht.on (k.below hbase))
  have H5 : Hid (∀ W v ys, OwnB base W v ys → Oth base w W → ys.length + 256 ≤ 140737488355328 → Calls Tryd.prog 58 #[v, tx [32, 107, 101, 121, 32], .bool true, .string key] W fun e w' => ∃ v', e = .returned v' ∧ ApO base W (ys ++ nu (vaL [32, 107, 101, 121, 32] true (bt key))) v' w') := fun W v ys o k hy => rappValue [32, 107, 101, 121, 32] true (bt key) (by have := hiv.1; have := hiv.2.1; have := hiv.2.2; omega) o (by decide) hy (Nat.le_trans hbase k.1.size)
  have H6 : Hid (∀ W v ys, OwnB base W v ys → Oth base w W → ys.length + 256 ≤ 140737488355328 → Calls Tryd.prog 58 #[v, tx [32, 119, 97, 110, 116, 32], .bool wa, .string ex] W fun e w' => ∃ v', e = .returned v' ∧ ApO base W (ys ++ nu (vaL [32, 119, 97, 110, 116, 32] wa (bt ex))) v' w') := fun W v ys o k hy => rappValue [32, 119, 97, 110, 116, 32] wa (bt ex) (by have := hiv.1; have := hiv.2.1; have := hiv.2.2; omega) o (by decide) hy (Nat.le_trans hbase k.1.size)
  have H7 : Hid (∀ W v ys, OwnB base W v ys → Oth base w W → ys.length + 256 ≤ 140737488355328 → Calls Tryd.prog 58 #[v, tx [32, 103, 111, 116, 32], .bool gg, .string ob] W fun e w' => ∃ v', e = .returned v' ∧ ApO base W (ys ++ nu (vaL [32, 103, 111, 116, 32] gg (bt ob))) v' w') := fun W v ys o k hy => rappValue [32, 103, 111, 116, 32] gg (bt ob) (by have := hiv.1; have := hiv.2.1; have := hiv.2.2; omega) o (by decide) hy (Nat.le_trans hbase k.1.size)
  have H8 : Hid (∀ W v ys, OwnB base W v ys → Oth base w W → ys.length + 64 ≤ 140737488355328 → Calls Tryd.prog 56 #[v, tx [32, 102, 114, 111, 109, 32], .int .i64 fr] W fun e w' => ∃ v', e = .returned v' ∧ ApO base W (ys ++ nu (numL [32, 102, 114, 111, 109, 32] fr)) v' w') := fun W v ys o k hy => rappNum [32, 102, 114, 111, 109, 32] fr (by omega) (by omega) o (by decide) hy (Nat.le_trans hbase k.1.size) (ht.on (k.below hbase))
  have H9 : Hid (∀ W v ys, OwnB base W v ys → Oth base w W → ys.length + 64 ≤ 140737488355328 → Calls Tryd.prog 40 #[v, tx [32, 116, 111, 32], .int .i64 tt] W fun e w' => ∃ v', e = .returned v' ∧ ApO base W (ys ++ nu (numL [32, 116, 111, 32] tt ++ [10])) v' w') := fun W v ys o k hy => rappLine [32, 116, 111, 32] tt (by omega) (by omega) o (by decide) hy (Nat.le_trans hbase k.1.size) (ht.on (k.below hbase))
  have HPL : Hid ((vWord ((i : Int) + 1)).length ≤ 64 ∧ (numL [32, 116, 105, 109, 101, 32] tm).length ≤ 64 ∧ (numL [32, 116, 120, 110, 32] txi).length ≤ 64 ∧ (plcL [32, 111, 112, 32] op).length ≤ 64 ∧ (plcL [32, 119, 105, 116, 110, 101, 115, 115, 32] wit).length ≤ 64 ∧ (vaL [32, 107, 101, 121, 32] true (bt key)).length ≤ 64 ∧ (vaL [32, 119, 97, 110, 116, 32] wa (bt ex)).length ≤ 64 ∧ (vaL [32, 103, 111, 116, 32] gg (bt ob)).length ≤ 64 ∧ (numL [32, 102, 114, 111, 109, 32] fr).length ≤ 64 ∧ (numL [32, 116, 111, 32] tt ++ [10]).length ≤ 64) := ⟨P0, P1, P2, P3, P4, P5, P6, P7, P8, P9⟩
  clear hw ht P0 P1 P2 P3 P4 P5 P6 P7 P8 P9 h1 h2 h3 h4 h5 h6 h7 h8 h9 hiv
  generalize vWord ((i : Int) + 1) = S0 at *
  generalize numL [32, 116, 105, 109, 101, 32] tm = S1 at *
  generalize numL [32, 116, 120, 110, 32] txi = S2 at *
  generalize plcL [32, 111, 112, 32] op = S3 at *
  generalize plcL [32, 119, 105, 116, 110, 101, 115, 115, 32] wit = S4 at *
  generalize vaL [32, 107, 101, 121, 32] true (bt key) = S5 at *
  generalize vaL [32, 119, 97, 110, 116, 32] wa (bt ex) = S6 at *
  generalize vaL [32, 103, 111, 116, 32] gg (bt ob) = S7 at *
  generalize numL [32, 102, 114, 111, 109, 32] fr = S8 at *
  generalize (numL [32, 116, 111, 32] tt ++ [10]) = S9 at *
  have hbg : 1 < w.heap.size := World.block_lt_of_cell? w _ hcg
  have A0 : Hid (Ao base w (w.alloc (.cells #[.int .i64 ((i : Int) + 1), .int .i64 tm, .int .i64 txi, .int .i64 op, .int .i64 wit, .string key, .bool wa, .string ex, .bool gg, .string ob, .int .i64 fr, .int .i64 tt] 41 (0, 0))) v xs (.cells #[.int .i64 ((i : Int) + 1), .int .i64 tm, .int .i64 txi, .int .i64 op, .int .i64 wit, .string key, .bool wa, .string ex, .bool gg, .string ob, .int .i64 fr, .int .i64 tt] 41 (0, 0))) := ⟨hown.kept ((Same.refl (fun _ => False) w).alloc _) (fun _ _ h => h), Oth.kept ((Same.refl _ w).alloc _), heap_new w _⟩
  have hwr : wrap64 ((i : Int) + 1 - 1) = (i : Int) := by unfold wrap64; omega
  have hnt : (41 : Nat) ≠ 5 := by decide
  have HB : Hid (base ≤ w.heap.size) := hbase
  have HX : Hid (xs.length + 2048 ≤ 140737488355328) := hb
  clear hown hb hbase
  obtain ⟨d0, d1, d2, d3, d4, d5, d6, d7, d8, d9, d10, d11⟩ := vl_obj A0.out.box
  have ld := lt_of_heap A0.out.box
  go_enter Tryd.func41, Tryd.ntmps41
  go_wp2_with (at_builtin; refine wpList_app rfl (.tmp 5) (.tmp 10) 32 9 rfl v (tx S0) rfl rfl _ (app_txO S0 A0.out.own (by have := HX.out; have := HPL.out.1; omega) (A0.out.size HB.out)) ?_; rintro v1 w1 a9; have A1 : Hid _ := A0.out.go hnt a9; clear a9 d0 d1 d2 d3 d4 d5 d6 d7 d8 d9 d10 d11 ld; obtain ⟨d0, d1, d2, d3, d4, d5, d6, d7, d8, d9, d10, d11⟩ := vl_obj A1.out.box; have ld := lt_of_heap A1.out.box)
  refine Calls.mono (H1.out _ _ _ A1.out.own A1.out.oth (by simp only [List.length_append, nu_len]; have := HX.out; have := HPL.out; omega)) ?_
  rintro e w2 ⟨v2, rfl, a9⟩
  have A2 : Hid _ := A1.out.go hnt a9
  clear a9 A0
  clear d0 d1 d2 d3 d4 d5 d6 d7 d8 d9 d10 d11 ld
  obtain ⟨d0, d1, d2, d3, d4, d5, d6, d7, d8, d9, d10, d11⟩ := vl_obj A2.out.box
  have ld := lt_of_heap A2.out.box
  go_wp2_with fail
  refine Calls.mono (H2.out _ _ _ A2.out.own A2.out.oth (by simp only [List.length_append, nu_len]; have := HX.out; have := HPL.out; omega)) ?_
  rintro e w3 ⟨v3, rfl, a9⟩
  have A3 : Hid _ := A2.out.go hnt a9
  clear a9 A1
  clear d0 d1 d2 d3 d4 d5 d6 d7 d8 d9 d10 d11 ld
  obtain ⟨d0, d1, d2, d3, d4, d5, d6, d7, d8, d9, d10, d11⟩ := vl_obj A3.out.box
  have ld := lt_of_heap A3.out.box
  go_wp2_with fail
  refine Calls.mono (H3.out _ _ _ A3.out.own A3.out.oth (by simp only [List.length_append, nu_len]; have := HX.out; have := HPL.out; omega)) ?_
  rintro e w4 ⟨v4, rfl, a9⟩
  have A4 : Hid _ := A3.out.go hnt a9
  clear a9 A2
  clear d0 d1 d2 d3 d4 d5 d6 d7 d8 d9 d10 d11 ld
  obtain ⟨d0, d1, d2, d3, d4, d5, d6, d7, d8, d9, d10, d11⟩ := vl_obj A4.out.box
  have ld := lt_of_heap A4.out.box
  go_wp2_with fail
  refine Calls.mono (H4.out _ _ _ A4.out.own A4.out.oth (by simp only [List.length_append, nu_len]; have := HX.out; have := HPL.out; omega)) ?_
  rintro e w5 ⟨v5, rfl, a9⟩
  have A5 : Hid _ := A4.out.go hnt a9
  clear a9 A3
  clear d0 d1 d2 d3 d4 d5 d6 d7 d8 d9 d10 d11 ld
  obtain ⟨d0, d1, d2, d3, d4, d5, d6, d7, d8, d9, d10, d11⟩ := vl_obj A5.out.box
  have ld := lt_of_heap A5.out.box
  go_wp2_with fail
  refine Calls.mono (H5.out _ _ _ A5.out.own A5.out.oth (by simp only [List.length_append, nu_len]; have := HX.out; have := HPL.out; omega)) ?_
  rintro e w6 ⟨v6, rfl, a9⟩
  have A6 : Hid _ := A5.out.go hnt a9
  clear a9 A4
  clear d0 d1 d2 d3 d4 d5 d6 d7 d8 d9 d10 d11 ld
  obtain ⟨d0, d1, d2, d3, d4, d5, d6, d7, d8, d9, d10, d11⟩ := vl_obj A6.out.box
  have ld := lt_of_heap A6.out.box
  go_wp2_with fail
  refine Calls.mono (H6.out _ _ _ A6.out.own A6.out.oth (by simp only [List.length_append, nu_len]; have := HX.out; have := HPL.out; omega)) ?_
  rintro e w7 ⟨v7, rfl, a9⟩
  have A7 : Hid _ := A6.out.go hnt a9
  clear a9 A5
  clear d0 d1 d2 d3 d4 d5 d6 d7 d8 d9 d10 d11 ld
  obtain ⟨d0, d1, d2, d3, d4, d5, d6, d7, d8, d9, d10, d11⟩ := vl_obj A7.out.box
  have ld := lt_of_heap A7.out.box
  go_wp2_with fail
  refine Calls.mono (H7.out _ _ _ A7.out.own A7.out.oth (by simp only [List.length_append, nu_len]; have := HX.out; have := HPL.out; omega)) ?_
  rintro e w8 ⟨v8, rfl, a9⟩
  have A8 : Hid _ := A7.out.go hnt a9
  clear a9 A6
  clear d0 d1 d2 d3 d4 d5 d6 d7 d8 d9 d10 d11 ld
  obtain ⟨d0, d1, d2, d3, d4, d5, d6, d7, d8, d9, d10, d11⟩ := vl_obj A8.out.box
  have ld := lt_of_heap A8.out.box
  go_wp2_with fail
  refine Calls.mono (H8.out _ _ _ A8.out.own A8.out.oth (by simp only [List.length_append, nu_len]; have := HX.out; have := HPL.out; omega)) ?_
  rintro e w9 ⟨v9, rfl, a9⟩
  have A9 : Hid _ := A8.out.go hnt a9
  clear a9 A7
  clear d0 d1 d2 d3 d4 d5 d6 d7 d8 d9 d10 d11 ld
  obtain ⟨d0, d1, d2, d3, d4, d5, d6, d7, d8, d9, d10, d11⟩ := vl_obj A9.out.box
  have ld := lt_of_heap A9.out.box
  go_wp2_with fail
  refine Calls.mono (H9.out _ _ _ A9.out.own A9.out.oth (by simp only [List.length_append, nu_len]; have := HX.out; have := HPL.out; omega)) ?_
  rintro e w10 ⟨v10, rfl, a9⟩
  have A10 : Hid _ := A9.out.go hnt a9
  clear a9 A8
  go_wp2_with fail
  go_ret
  refine ⟨v10, rfl, ?_, A10.out.oth⟩
  have h9 := A10.out.own
  simp only [nu_app, List.append_assoc] at h9 ⊢
  exact h9
end Go.Proofs.YtfhaiklfbnfdlaaDoor

namespace Go.Proofs.YtfhaiklfbnfdlaaDoor
open Go.RowKit

def headB : List UInt8 := [112, 114, 111, 99, 116, 111, 114, 32, 49, 10, 111, 117, 116, 99, 111, 109, 101, 32]
def footB : List UInt8 := [101, 110, 100, 10]
/-- The lines ahead of the violations. -/
def frontL (o : OuM) : List UInt8 := headB ++ oWord o.kd ++ [10] ++ (if hc o.kd = true then numL [99, 111, 100, 101, 32] o.cd ++ [10] else []) ++ (if ho o.kd = true then numL [111, 102, 102, 115, 101, 116, 32] o.of ++ [10] else []) ++ (if ht o.kd = true then numL [116, 120, 110, 115, 32] o.tn ++ [10] else []) ++ (if hl o.kd = true then (numL [116, 111, 116, 97, 108, 32] o.tt ++ [10]) ++ (numL [115, 104, 111, 119, 110, 32] (o.ls.length : Int) ++ [10]) else [])
/-- An outcome's text. -/
def outL (o : OuM) : List UInt8 := frontL o ++ o.ls.flatMap vioL ++ footB
theorem vioL_le {x : Vi.Vl} (hx : Vi.okV x = true) : (vioL x).length ≤ 640 := by
  obtain ⟨h0, h1, h2, h3, h4, h5, h6, h7, h8, h9⟩ := Vi.okV_iff x |>.1 hx
  have hv : (bt x.ex).length ≤ 16 ∧ (bt x.ob).length ≤ 16 ∧ (bt x.key).length ≤ 16 := by
    rw [bt_len, bt_len, bt_len]
    exact ⟨h8.1, h9.1, by omega⟩
  have p0 := vWord_le x.kd
  have p1 := numL_le (p := [32, 116, 105, 109, 101, 32]) (n := x.tm) (by decide) (by omega) (by omega)
  have p2 := numL_le (p := [32, 116, 120, 110, 32]) (n := x.tx) (by decide) (by omega) (by omega)
  have p3 := plcL_le (p := [32, 111, 112, 32]) (n := x.op) (by decide) (by omega) (by omega)
  have p4 := plcL_le (p := [32, 119, 105, 116, 110, 101, 115, 115, 32]) (n := x.wi) (by decide) (by omega) (by omega)
  have p5 := vaL_le (p := [32, 107, 101, 121, 32]) (th := true) (by decide) hv.2.2
  have p6 := vaL_le (p := [32, 119, 97, 110, 116, 32]) (th := x.wa) (by decide) hv.1
  have p7 := vaL_le (p := [32, 103, 111, 116, 32]) (th := x.go) (by decide) hv.2.1
  have p8 := numL_le (p := [32, 102, 114, 111, 109, 32]) (n := x.fr) (by decide) (by omega) (by omega)
  have p9 := numL_le (p := [32, 116, 111, 32]) (n := x.tt) (by decide) (by omega) (by omega)
  unfold vioL
  simp only [List.length_append, List.length_cons, List.length_nil]
  omega
theorem vios_le {l : List Vi.Vl} (h : ∀ x ∈ l, Vi.okV x = true) : (l.flatMap vioL).length ≤ l.length * 640 := by
  induction l with
  | nil => simp
  | cons x l ih =>
    have h1 := vioL_le (h x List.mem_cons_self)
    have h2 := ih fun y hy => h y (List.mem_cons_of_mem _ hy)
    rw [List.flatMap_cons, List.length_append, List.length_cons]
    omega
theorem vios_snoc {l : List Vi.Vl} {j : Nat} {x : Vi.Vl} (h : l[j]? = some x) : (l.take (j + 1)).flatMap vioL = (l.take j).flatMap vioL ++ vioL x := by
  rw [List.take_add_one, h, List.flatMap_append]
  simp
theorem oWord_le (k : Int) : (oWord k).length ≤ 9 := by
  unfold oWord
  split
  · rename_i h
    have h1 := Vi.wi_iff.1 h
    have h2 : (k - 1).toNat < 9 := by omega
    generalize (k - 1).toNat = i at h2
    match i, h2 with
    | 0, _ | 1, _ | 2, _ | 3, _ | 4, _ | 5, _ | 6, _ | 7, _ | 8, _ => decide
  · exact Nat.zero_le _
/-- What is known of a right outcome. -/
theorem okO_iff {o : OuM} (h : okO o = true) : (1 ≤ o.kd ∧ o.kd ≤ 9) ∧ (0 ≤ o.cd ∧ o.cd ≤ 999) ∧ (0 ≤ o.of ∧ o.of ≤ 4194304) ∧ (0 ≤ o.tn ∧ o.tn ≤ 4096) ∧ (0 ≤ o.tt ∧ o.tt ≤ 1099511627776) ∧ (o.ls.length : Int) ≤ o.tt ∧ o.ls.length ≤ 10000 ∧ (∀ x ∈ o.ls, Vi.okV x = true) ∧ Vi.srd o.ls = true := by
  unfold okO at h
  simp only [Bool.and_eq_true, Vi.wi_iff, decide_eq_true_eq] at h
  obtain ⟨⟨⟨⟨⟨⟨h0, h1⟩, h2⟩, h3⟩, h4⟩, h5⟩, h6, h7⟩ := h
  have hf : ∀ (th : Bool) (n a b : Int), 0 ≤ a → 0 ≤ b → fit th n a b = true → 0 ≤ n ∧ n ≤ b := fun th n a b ha hb h => by
    unfold fit at h
    split at h
    · have := Vi.wi_iff.1 h
      omega
    · have := of_decide_eq_true h
      omega
  exact ⟨h0, hf _ _ _ _ (by decide) (by decide) h1, hf _ _ _ _ (by decide) (by decide) h2, hf _ _ _ _ (by decide) (by decide) h3, hf _ _ _ _ (by decide) (by decide) h4, by omega, by omega, List.all_eq_true.1 h6, h7⟩
set_option maxRecDepth 100000 in
set_option maxHeartbeats 3200000 in
theorem appOut22 {w : World} {base : Nat} {v : Value} {xs : List Int} (o : OuM) (a : Option Addr) (cap : Nat) (hx : okO o = true) (hat : ∀ W, Oth base w W → Vi.At Vi.vl1 12 W a o.ls) (hown : OwnB base w v xs) (hb : xs.length + 16777216 ≤ 140737488355328) (hbase : base ≤ w.heap.size) (htb : Tab base w) (_ : Wds w) (hwb : ∀ W, Oth base w W → Wds W) :
    Calls Tryd.prog 23 #[v, ouV o (.slice a o.ls.length cap)] w fun e w' => ∃ v', e = .returned v' ∧ ApO base w (xs ++ nu (outL o)) v' w' := by
  obtain ⟨r0, r1, r2, r3, r4, r5, r6, r7, -⟩ := okO_iff hx
  obtain ⟨kd, cd, off, tn, tt, ls⟩ := o
  unfold ouV outL frontL
  dsimp only at r0 r1 r2 r3 r4 r5 r6 r7 hat ⊢
  have HK : Hid (∀ W, Oth base w W → _) := fun W (k : Oth base w W) => kind22 kd W (hwb W k)
  have HC : Hid (∀ W, _) := fun W => hasCode22 kd W
  have HO : Hid (∀ W, _) := fun W => hasOffset22 kd W
  have HT : Hid (∀ W, _) := fun W => hasTxns22 kd W
  have HLI : Hid (∀ W, _) := fun W => hasList22 kd W
  have HLN : Hid (∀ W v ys (p : List UInt8) (i : Int), OwnB base W v ys → Oth base w W → p.length ≤ 10 → (0 ≤ i ∧ i ≤ 1099511627776) → ys.length + 64 ≤ 140737488355328 → Calls Tryd.prog 40 #[v, tx p, .int .i64 i] W fun e w' => ∃ v', e = .returned v' ∧ ApO base W (ys ++ nu (numL p i ++ [10])) v' w') := fun W v ys p i o k hp hi hy => rappLine p i (by omega) (by omega) o hp hy (Nat.le_trans hbase k.1.size) (htb.on (k.below hbase))
  have HVI : Hid (∀ W v ys (x : Vi.Vl), x ∈ ls → OwnB base W v ys → Oth base w W → ys.length + 2048 ≤ 140737488355328 → Calls Tryd.prog 41 #[v, Vi.vlV x] W fun e w' => ∃ v', e = .returned v' ∧ ApO base W (ys ++ nu (vioL x)) v' w') := fun W v ys x hx o k hy => appViol22 x (r7 x hx) o hy (Nat.le_trans hbase k.1.size) (htb.on (k.below hbase)) (hwb W k)
  have HNL : Hid (∀ (p : List UInt8) (i : Int), p.length ≤ 10 → (0 ≤ i ∧ i ≤ 1099511627776) → (numL p i).length ≤ 31) := fun p i hp hi => numL_le hp (by omega) (by omega)
  have HOW : Hid ((oWord kd).length ≤ 9) := oWord_le kd
  have HVL : Hid (∀ j, ((ls.take j).flatMap vioL).length ≤ 6400000) := fun j => by
    have h1 := vios_le (l := ls.take j) (fun x hx => r7 x (List.mem_of_mem_take hx))
    have h2 : (ls.take j).length ≤ 10000 := by rw [List.length_take]; omega
    omega
  have HR : Hid ((0 ≤ cd ∧ cd ≤ 1099511627776) ∧ (0 ≤ off ∧ off ≤ 1099511627776) ∧ (0 ≤ tn ∧ tn ≤ 1099511627776) ∧ (0 ≤ tt ∧ tt ≤ 1099511627776) ∧ (0 ≤ (ls.length : Int) ∧ (ls.length : Int) ≤ 1099511627776) ∧ ls.length ≤ 10000) := ⟨by omega, by omega, by omega, by omega, by omega, r6⟩
  have HAT : Hid (∀ W, Oth base w W → Vi.At Vi.vl1 12 W a ls) := hat
  have HB : Hid (base ≤ w.heap.size) := hbase
  have HX : Hid (xs.length + 16777216 ≤ 140737488355328) := hb
  obtain ⟨n, en⟩ : ∃ n, n = ls.length := ⟨_, rfl⟩
  rw [← en] at HR ⊢
  have EN : Hid (n = ls.length) := en
  have hni : (n : Int) ≤ 10000 := by omega
  have A0 : Hid (Ao base w (w.alloc (ouO (.int .i64 kd) (.int .i64 cd) (.int .i64 off) (.int .i64 tn) (.int .i64 tt) (.slice a n cap))) v xs (ouO (.int .i64 kd) (.int .i64 cd) (.int .i64 off) (.int .i64 tn) (.int .i64 tt) (.slice a n cap))) := ⟨hown.kept ((Same.refl (fun _ => False) w).alloc _) (fun _ _ h => h), Oth.kept ((Same.refl _ w).alloc _), heap_new w _⟩
  have hnt : (25 : Nat) ≠ 5 := by decide
  clear hx hat hown hb hbase htb hwb r0 r1 r2 r3 r4 r5 r6 r7 en
  generalize hcw : oWord kd = OW at *
  obtain ⟨bC, hbC⟩ : ∃ bC, bC = hc kd := ⟨_, rfl⟩
  obtain ⟨bO, hbO⟩ : ∃ bO, bO = ho kd := ⟨_, rfl⟩
  obtain ⟨bT, hbT⟩ : ∃ bT, bT = ht kd := ⟨_, rfl⟩
  obtain ⟨bL, hbL⟩ : ∃ bL, bL = hl kd := ⟨_, rfl⟩
  rw [← hbC] at HC ⊢
  rw [← hbO] at HO ⊢
  rw [← hbT] at HT ⊢
  rw [← hbL] at HLI ⊢
  clear hbC hbO hbT hbL hcw
  obtain ⟨PC, ePC⟩ : ∃ PC, PC = if bC = true then numL [99, 111, 100, 101, 32] cd ++ [10] else [] := ⟨_, rfl⟩
  obtain ⟨PO, ePO⟩ : ∃ PO, PO = if bO = true then numL [111, 102, 102, 115, 101, 116, 32] off ++ [10] else [] := ⟨_, rfl⟩
  obtain ⟨PT, ePT⟩ : ∃ PT, PT = if bT = true then numL [116, 120, 110, 115, 32] tn ++ [10] else [] := ⟨_, rfl⟩
  obtain ⟨PL, ePL⟩ : ∃ PL, PL = if bL = true then (numL [116, 111, 116, 97, 108, 32] tt ++ [10]) ++ (numL [115, 104, 111, 119, 110, 32] (n : Int) ++ [10]) else [] := ⟨_, rfl⟩
  rw [← ePC, ← ePO, ← ePT, ← ePL]
  have HPC : Hid (PC = if bC = true then numL [99, 111, 100, 101, 32] cd ++ [10] else []) := ePC
  have HPO : Hid (PO = if bO = true then numL [111, 102, 102, 115, 101, 116, 32] off ++ [10] else []) := ePO
  have HPT : Hid (PT = if bT = true then numL [116, 120, 110, 115, 32] tn ++ [10] else []) := ePT
  have HPL : Hid (PL = if bL = true then (numL [116, 111, 116, 97, 108, 32] tt ++ [10]) ++ (numL [115, 104, 111, 119, 110, 32] (n : Int) ++ [10]) else []) := ePL
  have LP : Hid (PC.length ≤ 64 ∧ PO.length ≤ 64 ∧ PT.length ≤ 64 ∧ PL.length ≤ 128 ∧ OW.length ≤ 9) := by
    have h1 := HNL.out [99, 111, 100, 101, 32] cd (by decide) HR.out.1
    have h2 := HNL.out [111, 102, 102, 115, 101, 116, 32] off (by decide) HR.out.2.1
    have h3 := HNL.out [116, 120, 110, 115, 32] tn (by decide) HR.out.2.2.1
    have h4 := HNL.out [116, 111, 116, 97, 108, 32] tt (by decide) HR.out.2.2.2.1
    have h5 := HNL.out [115, 104, 111, 119, 110, 32] (n : Int) (by decide) HR.out.2.2.2.2.1
    refine ⟨?_, ?_, ?_, ?_, HOW.out⟩
    · rw [ePC]; split <;> simp only [List.length_append, List.length_cons, List.length_nil] <;> omega
    · rw [ePO]; split <;> simp only [List.length_append, List.length_cons, List.length_nil] <;> omega
    · rw [ePT]; split <;> simp only [List.length_append, List.length_cons, List.length_nil] <;> omega
    · rw [ePL]; split <;> simp only [List.length_append, List.length_cons, List.length_nil] <;> omega
  clear ePC ePO ePT ePL
  obtain ⟨d0, d1, d2, d3, d4, d5⟩ := ou_obj A0.out.box
  have ld := lt_of_heap A0.out.box
  have LB : Hid (headB.length ≤ 20 ∧ footB.length ≤ 20) := ⟨by decide, by decide⟩
  go_enter Tryd.func23, Tryd.ntmps23
  go_wp2_with (at_builtin; refine wpList_app rfl (.tmp 7) (.const (.string ⟨headB.toArray⟩)) 32 9 rfl v (tx headB) rfl rfl _ (app_txO headB A0.out.own (by have := HX.out; have := LB.out; omega) (A0.out.size HB.out)) ?_; rintro v1 w1 a9; have A1 : Hid _ := A0.out.go hnt a9; clear a9 d0 d1 d2 d3 d4 d5 ld; obtain ⟨d0, d1, d2, d3, d4, d5⟩ := ou_obj A1.out.box; have ld := lt_of_heap A1.out.box)
  refine Calls.mono (HK.out _ A1.out.oth) ?_
  rintro e w2 ⟨rfl, e2⟩
  subst e2
  go_wp2_with (first | (at_builtin; refine wpList_app rfl (.tmp 9) (.tmp 12) 32 9 rfl v1 (tx OW) rfl rfl _ (app_txO OW A1.out.own (by simp only [List.length_append, nu_len]; have := HX.out; have := LB.out; have := LP.out; have := HNL.out [116, 111, 116, 97, 108, 32] tt (by decide) HR.out.2.2.2.1; omega) (A1.out.size HB.out)) ?_; rintro v2 w3 a9; have A2 : Hid _ := A1.out.go hnt a9; clear a9 d0 d1 d2 d3 d4 d5 ld; obtain ⟨d0, d1, d2, d3, d4, d5⟩ := ou_obj A2.out.box; have ld := lt_of_heap A2.out.box) | (at_builtin; refine wpList_app rfl (.tmp 14) (.const (.string ⟨#[10]⟩)) 32 9 rfl v2 (tx [10]) rfl rfl _ (app_txO [10] A2.out.own (by simp only [List.length_append, nu_len, List.length_cons, List.length_nil]; have := HX.out; have := LB.out; have := LP.out; have := HNL.out [116, 111, 116, 97, 108, 32] tt (by decide) HR.out.2.2.2.1; omega) (A2.out.size HB.out)) ?_; rintro v3 w4 a9; have A3 : Hid _ := A2.out.go hnt a9; clear a9 d0 d1 d2 d3 d4 d5 ld; obtain ⟨d0, d1, d2, d3, d4, d5⟩ := ou_obj A3.out.box; have ld := lt_of_heap A3.out.box))
  have A4 : Hid (Ao base w w4 v3 (xs ++ nu headB ++ nu OW ++ nu [10]) (.cells #[.int .i64 kd, .int .i64 cd, .int .i64 off, .int .i64 tn, .int .i64 tt, .slice a n cap] 25 (0, 0))) := A3.out
  clear A1 A2 A3
  refine Calls.mono (HC.out _) ?_
  rintro e wx ⟨rfl, ex⟩
  subst ex
  go_upto_if 18 with fail
  go_cut [0] (fun s0 wx => Ao base w wx s0 (xs ++ nu headB ++ nu OW ++ nu [10] ++ nu PC) (.cells #[.int .i64 kd, .int .i64 cd, .int .i64 off, .int .i64 tn, .int .i64 tt, .slice a n cap] 25 (0, 0)))
  case first =>
    cases bC with
    | false =>
      have e0 : PC = [] := HPC.out
      go_wp2_with fail
      go_meet
      rw [e0]
      have h9 := A4.out
      simp only [nu, List.map_nil, List.append_nil] at h9 ⊢
      exact h9
    | true =>
      have e0 : PC = numL [99, 111, 100, 101, 32] cd ++ [10] := HPC.out
      go_wp2_with fail
      refine Calls.mono (HLN.out _ _ _ [99, 111, 100, 101, 32] cd A4.out.own A4.out.oth (by decide) HR.out.1 (by simp only [List.length_append, nu_len, List.length_cons, List.length_nil]; have := HX.out; have := LB.out; have := LP.out; have := HNL.out [116, 111, 116, 97, 108, 32] tt (by decide) HR.out.2.2.2.1; omega)) ?_
      rintro e wy ⟨vy, rfl, a9⟩
      have B0 : Hid _ := A4.out.go hnt a9
      clear a9
      clear d0 d1 d2 d3 d4 d5 ld
      obtain ⟨d0, d1, d2, d3, d4, d5⟩ := ou_obj B0.out.box
      have ld := lt_of_heap B0.out.box
      go_wp2_with fail
      go_meet
      rw [e0]
      have h9 := B0.out
      simp only [nu_app, List.append_assoc] at h9 ⊢
      exact h9
  case rest =>
    have A4' : Hid (Ao base w wc u0 (xs ++ nu headB ++ nu OW ++ nu [10] ++ nu PC) (.cells #[.int .i64 kd, .int .i64 cd, .int .i64 off, .int .i64 tn, .int .i64 tt, .slice a n cap] 25 (0, 0))) := hcut
    clear hcut A4 d0 d1 d2 d3 d4 d5 ld
    obtain ⟨d0, d1, d2, d3, d4, d5⟩ := ou_obj A4'.out.box
    have ld := lt_of_heap A4'.out.box
    have A4 : Hid (Ao base w wc u0 (xs ++ nu headB ++ nu OW ++ nu [10] ++ nu PC) (.cells #[.int .i64 kd, .int .i64 cd, .int .i64 off, .int .i64 tn, .int .i64 tt, .slice a n cap] 25 (0, 0))) := A4'.out
    clear A4'
    go_wp2_with fail
    refine Calls.mono (HO.out _) ?_
    rintro e wx ⟨rfl, ex⟩
    subst ex
    go_upto_if 25 with fail
    go_cut [0] (fun s0 wx => Ao base w wx s0 (xs ++ nu headB ++ nu OW ++ nu [10] ++ nu PC ++ nu PO) (.cells #[.int .i64 kd, .int .i64 cd, .int .i64 off, .int .i64 tn, .int .i64 tt, .slice a n cap] 25 (0, 0)))
    case first =>
      cases bO with
      | false =>
        have e0 : PO = [] := HPO.out
        go_wp2_with fail
        go_meet
        rw [e0]
        have h9 := A4.out
        simp only [nu, List.map_nil, List.append_nil] at h9 ⊢
        exact h9
      | true =>
        have e0 : PO = numL [111, 102, 102, 115, 101, 116, 32] off ++ [10] := HPO.out
        go_wp2_with fail
        refine Calls.mono (HLN.out _ _ _ [111, 102, 102, 115, 101, 116, 32] off A4.out.own A4.out.oth (by decide) HR.out.2.1 (by simp only [List.length_append, nu_len, List.length_cons, List.length_nil]; have := HX.out; have := LB.out; have := LP.out; have := HNL.out [116, 111, 116, 97, 108, 32] tt (by decide) HR.out.2.2.2.1; omega)) ?_
        rintro e wy ⟨vy, rfl, a9⟩
        have B0 : Hid _ := A4.out.go hnt a9
        clear a9
        clear d0 d1 d2 d3 d4 d5 ld
        obtain ⟨d0, d1, d2, d3, d4, d5⟩ := ou_obj B0.out.box
        have ld := lt_of_heap B0.out.box
        go_wp2_with fail
        go_meet
        rw [e0]
        have h9 := B0.out
        simp only [nu_app, List.append_assoc] at h9 ⊢
        exact h9
    case rest =>
      have A4' : Hid (Ao base w wc u0 (xs ++ nu headB ++ nu OW ++ nu [10] ++ nu PC ++ nu PO) (.cells #[.int .i64 kd, .int .i64 cd, .int .i64 off, .int .i64 tn, .int .i64 tt, .slice a n cap] 25 (0, 0))) := hcut
      clear hcut A4 d0 d1 d2 d3 d4 d5 ld
      obtain ⟨d0, d1, d2, d3, d4, d5⟩ := ou_obj A4'.out.box
      have ld := lt_of_heap A4'.out.box
      have A4 : Hid (Ao base w wc u0 (xs ++ nu headB ++ nu OW ++ nu [10] ++ nu PC ++ nu PO) (.cells #[.int .i64 kd, .int .i64 cd, .int .i64 off, .int .i64 tn, .int .i64 tt, .slice a n cap] 25 (0, 0))) := A4'.out
      clear A4'
      go_wp2_with fail
      refine Calls.mono (HT.out _) ?_
      rintro e wx ⟨rfl, ex⟩
      subst ex
      go_upto_if 32 with fail
      go_cut [0] (fun s0 wx => Ao base w wx s0 (xs ++ nu headB ++ nu OW ++ nu [10] ++ nu PC ++ nu PO ++ nu PT) (.cells #[.int .i64 kd, .int .i64 cd, .int .i64 off, .int .i64 tn, .int .i64 tt, .slice a n cap] 25 (0, 0)))
      case first =>
        cases bT with
        | false =>
          have e0 : PT = [] := HPT.out
          go_wp2_with fail
          go_meet
          rw [e0]
          have h9 := A4.out
          simp only [nu, List.map_nil, List.append_nil] at h9 ⊢
          exact h9
        | true =>
          have e0 : PT = numL [116, 120, 110, 115, 32] tn ++ [10] := HPT.out
          go_wp2_with fail
          refine Calls.mono (HLN.out _ _ _ [116, 120, 110, 115, 32] tn A4.out.own A4.out.oth (by decide) HR.out.2.2.1 (by simp only [List.length_append, nu_len, List.length_cons, List.length_nil]; have := HX.out; have := LB.out; have := LP.out; have := HNL.out [116, 111, 116, 97, 108, 32] tt (by decide) HR.out.2.2.2.1; omega)) ?_
          rintro e wy ⟨vy, rfl, a9⟩
          have B0 : Hid _ := A4.out.go hnt a9
          clear a9
          clear d0 d1 d2 d3 d4 d5 ld
          obtain ⟨d0, d1, d2, d3, d4, d5⟩ := ou_obj B0.out.box
          have ld := lt_of_heap B0.out.box
          go_wp2_with fail
          go_meet
          rw [e0]
          have h9 := B0.out
          simp only [nu_app, List.append_assoc] at h9 ⊢
          exact h9
      case rest =>
        have A4' : Hid (Ao base w wc u0 (xs ++ nu headB ++ nu OW ++ nu [10] ++ nu PC ++ nu PO ++ nu PT) (.cells #[.int .i64 kd, .int .i64 cd, .int .i64 off, .int .i64 tn, .int .i64 tt, .slice a n cap] 25 (0, 0))) := hcut
        clear hcut A4 d0 d1 d2 d3 d4 d5 ld
        obtain ⟨d0, d1, d2, d3, d4, d5⟩ := ou_obj A4'.out.box
        have ld := lt_of_heap A4'.out.box
        have A4 : Hid (Ao base w wc u0 (xs ++ nu headB ++ nu OW ++ nu [10] ++ nu PC ++ nu PO ++ nu PT) (.cells #[.int .i64 kd, .int .i64 cd, .int .i64 off, .int .i64 tn, .int .i64 tt, .slice a n cap] 25 (0, 0))) := A4'.out
        clear A4'
        go_wp2_with fail
        refine Calls.mono (HLI.out _) ?_
        rintro e wx ⟨rfl, ex⟩
        subst ex
        go_upto_if 39 with fail
        go_cut [0] (fun s0 wx => Ao base w wx s0 (xs ++ nu headB ++ nu OW ++ nu [10] ++ nu PC ++ nu PO ++ nu PT ++ nu PL) (.cells #[.int .i64 kd, .int .i64 cd, .int .i64 off, .int .i64 tn, .int .i64 tt, .slice a n cap] 25 (0, 0)))
        case first =>
          cases bL with
          | false =>
            have e0 : PL = [] := HPL.out
            go_wp2_with fail
            go_meet
            rw [e0]
            have h9 := A4.out
            simp only [nu, List.map_nil, List.append_nil] at h9 ⊢
            exact h9
          | true =>
            have e0 : PL = (numL [116, 111, 116, 97, 108, 32] tt ++ [10]) ++ (numL [115, 104, 111, 119, 110, 32] (n : Int) ++ [10]) := HPL.out
            go_wp2_with fail
            refine Calls.mono (HLN.out _ _ _ [116, 111, 116, 97, 108, 32] tt A4.out.own A4.out.oth (by decide) HR.out.2.2.2.1 (by simp only [List.length_append, nu_len, List.length_cons, List.length_nil]; have := HX.out; have := LB.out; have := LP.out; have := HNL.out [116, 111, 116, 97, 108, 32] tt (by decide) HR.out.2.2.2.1; omega)) ?_
            rintro e wy ⟨vy, rfl, a9⟩
            have B0 : Hid _ := A4.out.go hnt a9
            clear a9
            clear d0 d1 d2 d3 d4 d5 ld
            obtain ⟨d0, d1, d2, d3, d4, d5⟩ := ou_obj B0.out.box
            have ld := lt_of_heap B0.out.box
            go_wp2_with fail
            refine Calls.mono (HLN.out _ _ _ [115, 104, 111, 119, 110, 32] (n : Int) B0.out.own B0.out.oth (by decide) HR.out.2.2.2.2.1 (by simp only [List.length_append, nu_len, List.length_cons, List.length_nil]; have := HX.out; have := LB.out; have := LP.out; have := HNL.out [116, 111, 116, 97, 108, 32] tt (by decide) HR.out.2.2.2.1; omega)) ?_
            rintro e wy ⟨vy, rfl, a9⟩
            have B1 : Hid _ := B0.out.go hnt a9
            clear a9
            clear d0 d1 d2 d3 d4 d5 ld
            obtain ⟨d0, d1, d2, d3, d4, d5⟩ := ou_obj B1.out.box
            have ld := lt_of_heap B1.out.box
            go_wp2_with fail
            go_meet
            rw [e0]
            have h9 := B1.out
            simp only [nu_app, List.append_assoc] at h9 ⊢
            exact h9
        case rest =>
          have A4' : Hid (Ao base w wc u0 (xs ++ nu headB ++ nu OW ++ nu [10] ++ nu PC ++ nu PO ++ nu PT ++ nu PL) (.cells #[.int .i64 kd, .int .i64 cd, .int .i64 off, .int .i64 tn, .int .i64 tt, .slice a n cap] 25 (0, 0))) := hcut
          clear hcut A4 d0 d1 d2 d3 d4 d5 ld
          obtain ⟨d0, d1, d2, d3, d4, d5⟩ := ou_obj A4'.out.box
          have ld := lt_of_heap A4'.out.box
          have A4 : Hid (Ao base w wc u0 (xs ++ nu headB ++ nu OW ++ nu [10] ++ nu PC ++ nu PO ++ nu PT ++ nu PL) (.cells #[.int .i64 kd, .int .i64 cd, .int .i64 off, .int .i64 tn, .int .i64 tt, .slice a n cap] 25 (0, 0))) := A4'.out
          clear A4'
          go_wp2_with fail
          go_loopw [52, 0] (fun v52 v0 wr => ∃ j : Nat, v52 = .int .i64 (j : Int) ∧ j ≤ n ∧ Ao base w wr v0 (xs ++ nu headB ++ nu OW ++ nu [10] ++ nu PC ++ nu PO ++ nu PT ++ nu PL ++ nu ((ls.take j).flatMap vioL)) (.cells #[.int .i64 kd, .int .i64 cd, .int .i64 off, .int .i64 tn, .int .i64 tt, .slice a n cap] 25 (0, 0))) (fun v52 _ _ => n - (intOf v52).toNat)
          case atStart =>
            refine ⟨0, rfl, Nat.zero_le _, ?_⟩
            have h9 := A4.out
            simpa [nu] using h9
          case round =>
            clear A4 d0 d1 d2 d3 d4 d5 ld
            obtain ⟨j, rfl, hj, ha⟩ := hrel
            rename World => WL
            have A4 : Hid (Ao base w WL u0 (xs ++ nu headB ++ nu OW ++ nu [10] ++ nu PC ++ nu PO ++ nu PT ++ nu PL ++ nu ((ls.take j).flatMap vioL)) (.cells #[.int .i64 kd, .int .i64 cd, .int .i64 off, .int .i64 tn, .int .i64 tt, .slice a n cap] 25 (0, 0))) := ha
            clear ha
            by_cases hjn : j < n
            · have c1 : (j : Int) < (n : Int) := by omega
              obtain ⟨x, hx⟩ : ∃ x, ls[j]? = some x := ⟨_, List.getElem?_eq_getElem (by rw [← show n = _ from EN.out]; exact hjn)⟩
              obtain ⟨b, o, rfl, hb, x0, x1, x2, x3, x4, x5, x6, x7, x8, x9, x10, x11⟩ := Vi.At.vl (HAT.out WL A4.out.oth) hx
              have HX2 : Hid (ls[j]? = some x) := hx
              have HJ : Hid (j < n) := hjn
              have A5 : Hid _ := A4.out.kept ((Same.refl (fun _ => False) WL).alloc (Vi.vlO x))
              have HVX : Hid (∀ W v ys, OwnB base W v ys → Oth base w W → ys.length + 2048 ≤ 140737488355328 → Calls Tryd.prog 41 #[v, Vi.vlV x] W fun e w' => ∃ v', e = .returned v' ∧ ApO base W (ys ++ nu (vioL x)) v' w') := fun W v ys => HVI.out W v ys x (List.mem_of_getElem? hx)
              clear hx hjn hj A4
              go_wp2_with fail
              refine Calls.mono (HVX.out _ _ _ A5.out.own A5.out.oth (by simp only [List.length_append, nu_len, List.length_cons, List.length_nil]; have := HX.out; have := LB.out; have := LP.out; have := HVL.out j; omega)) ?_
              rintro e w5 ⟨v5, rfl, a9⟩
              have A6 : Hid _ := A5.out.go hnt a9
              clear a9 A5 x0 x1 x2 x3 x4 x5 x6 x7 x8 x9 x10 x11 hb
              go_wp2_with fail
              go_roundw
              case rel =>
                refine ⟨j + 1, by simp, HJ.out, ?_⟩
                have h9 := A6.out
                rw [vios_snoc HX2.out, nu_app]
                simp only [List.append_assoc] at h9 ⊢
                exact h9
              case measure => simp only [intOf]; have := HJ.out; omega
            · obtain rfl : j = n := by omega
              have c1 : ¬ (j : Int) < (j : Int) := by omega
              have HEND : Hid (ls.take j = ls) := List.take_of_length_le (by rw [← show j = _ from EN.out]; exact Nat.le_refl _)
              clear hjn hj
              go_wp2_with (at_builtin; refine wpList_app rfl (.tmp 60) (.const (.string ⟨footB.toArray⟩)) 32 9 rfl u0 (tx footB) rfl rfl _ (app_txO footB A4.out.own (by simp only [List.length_append, nu_len, List.length_cons, List.length_nil]; have := HX.out; have := LB.out; have := LP.out; have := HVL.out j; omega) (A4.out.size HB.out)) ?_; rintro v9 w9 a9; have A9 : Hid _ := A4.out.go hnt a9; clear a9)
              go_ret
              refine ⟨v9, rfl, ?_, A9.out.oth⟩
              have h9 := A9.out.own
              rw [HEND.out] at h9
              have e9 : xs ++ nu headB ++ nu OW ++ nu [10] ++ nu PC ++ nu PO ++ nu PT ++ nu PL ++ nu (ls.flatMap vioL) ++ nu footB = xs ++ nu (headB ++ OW ++ [10] ++ PC ++ PO ++ PT ++ PL ++ ls.flatMap vioL ++ footB) := by simp [nu]
              rw [e9] at h9
              simpa using h9
end Go.Proofs.YtfhaiklfbnfdlaaDoor
