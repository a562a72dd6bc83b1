/- the document's writers of pieces and of a violation's line; conditions: lengths -/
import Derived.Test.YtfhaiklfbnfdlaaDoorRoE
import Derived.Test.YtfhaiklfbnfdlaaDoorRoO
import Derived.Test.YtfhaiklfbnfdlaaDoorNoRl
namespace Go.Proofs.YtfhaiklfbnfdlaaDoor
open Go.RowKit

theorem rptext {w : World} {base : Nat} {v : Value} {xs : List Int} (p : List UInt8) (hown : OwnB base w v xs) (hb : xs.length + p.length ≤ 140737488355328) (hbase : base ≤ w.heap.size) :
    Calls Tryd.prog 31 #[v, tx p] w fun e w' => ∃ v', e = .returned v' ∧ ApO base w (xs ++ nu p) v' w' := by
  have HA : Hid _ := app_txO p hown hb hbase
  clear hown
  go_enter Tryd.func31, Tryd.ntmps31
  go_wp2_with (at_builtin; refine wpList_app rfl (.tmp 5) (.tmp 6) 32 9 rfl v (tx p) rfl rfl _ HA.out ?_; rintro v2 w2 a2; have A2 : Hid _ := a2; clear a2)
  go_ret
  exact ⟨v2, rfl, A2.out⟩
theorem app_dash {w : World} {base : Nat} {v : Value} {xs : List Int} (hown : OwnB base w v xs) (hb : xs.length + 1 ≤ 140737488355328) (hbase : base ≤ w.heap.size) (c : UInt8) (g : Nat) (hg : g = w.heap.size) (ty : TypeId) :
    ∃ v' w', (Builtin.append_ #[32, 32] ty #[v, .slice (some ⟨g, 0, none⟩) 1 1]).run Tryd.prog (w.alloc (.cells #[.int .u8 (c.toNat : Int)] 5)) = .ok v' w' ∧ ApO base w (xs ++ nu [c]) v' w' :=
  app_litO [(c.toNat : Int)] hown (by simpa using hb) hbase g hg ty
theorem rpnumber {w : World} {base : Nat} {v : Value} {xs : List Int} (p : List UInt8) (n : Int) (h0 : -1 ≤ n) (h1 : n ≤ 9223372036854775807) (hown : OwnB base w v xs) (hp : p.length ≤ 20) (hb : xs.length + 64 ≤ 140737488355328) (hbase : base ≤ w.heap.size) :
    Calls Tryd.prog 32 #[v, tx p, .int .i64 n] w fun e w' => ∃ v', e = .returned v' ∧ ApO base w (xs ++ nu (plcL p n)) v' w' := by
  have HT : Hid _ := rptext p hown (by omega) hbase
  have HX : Hid (xs.length + 64 ≤ 140737488355328) := hb
  have HB : Hid (base ≤ w.heap.size) := hbase
  have HP : Hid (p.length ≤ 20) := hp
  clear hown hb hbase hp
  by_cases hn : n < 0
  · have d : decide (n < 0) = true := decide_eq_true hn
    have E : Hid (plcL p n = p ++ [45]) := by show _ = _; unfold plcL; rw [if_pos hn]
    go_enter Tryd.func32, Tryd.ntmps32
    go_wp2_with fail
    refine Calls.mono HT.out ?_
    rintro e w1 ⟨v1, rfl, a1⟩
    have A1 : Hid (ApO base w (xs ++ nu p) v1 w1) := a1
    clear a1 HT
    go_wp2_with (at_builtin; apply Hid.out)
    refine wpList_app rfl (.tmp 13) (.tmp 14) 32 32 rfl v1 (.slice (some ⟨_, 0, none⟩) 1 1) rfl rfl _ (app_dash A1.out.1 (by rw [List.length_append, nu_len]; have := HX.out; have := HP.out; omega) (Nat.le_trans HB.out A1.out.2.1.size) 45 _ rfl) ?_
    rintro v2 w2 a2
    have A2 : Hid (ApO base w (xs ++ nu (plcL p n)) v2 w2) := ⟨by rw [E.out, nu_app, ← List.append_assoc]; exact a2.1, A1.out.2.trans a2.2⟩
    clear a2 A1
    go_wp2_with fail
    go_ret
    exact ⟨v2, rfl, A2.out⟩
  · have d : decide (n < 0) = false := decide_eq_false hn
    have E : Hid (plcL p n = numL p n) := by show _ = _; unfold plcL; rw [if_neg hn]
    obtain ⟨m, rfl⟩ : ∃ m : Nat, n = (m : Int) := ⟨n.toNat, by omega⟩
    have HD : Hid (∀ w, _) := fun w => rdigits_any m (by omega) w
    have HIL : Hid ((Lib.itoa (m : Int)).length ≤ 21) := Lib.itoa_length_le _ (by omega) (by omega)
    go_enter Tryd.func32, Tryd.ntmps32
    go_wp2_with fail
    refine Calls.mono HT.out ?_
    rintro e w1 ⟨v1, rfl, a1⟩
    have A1 : Hid (ApO base w (xs ++ nu p) v1 w1) := a1
    clear a1 HT
    go_wp2_with fail
    refine Calls.mono (HD.out _) ?_
    rintro e w2 ⟨v2, rfl, o2, k2⟩
    obtain ⟨a, c, rfl, hby, hnil⟩ := OwnB.bytes o2
    have A2 : Hid (ApO base w (xs ++ nu p) v1 w2) := ⟨A1.out.1.kept k2 (fun _ _ h => h), A1.out.2.trans (Oth.kept k2)⟩
    have HBY : Hid (BytesAt w2 a (nu (Lib.itoa (m : Int)))) := hby
    have HNI : Hid (a = none → (nu (Lib.itoa (m : Int))).length = 0 ∧ c = 0) := hnil.2.1
    clear o2 k2 hby hnil A1 HD
    obtain ⟨n5, en5⟩ : ∃ n5, (nu (Lib.itoa (m : Int))).length = n5 := ⟨_, rfl⟩
    have HEN : Hid ((nu (Lib.itoa (m : Int))).length = n5) := en5
    rw [en5]
    clear en5
    have HA : Hid (∀ ty, ∃ v' w', (Builtin.append_ #[32, 32] ty #[v1, .slice a n5 c]).run Tryd.prog w2 = .ok v' w' ∧ ApO base w2 (xs ++ nu p ++ nu (Lib.itoa (m : Int))) v' w') := fun ty => by
      rw [← HEN.out]
      exact app_rowO (c := c) A2.out.1 HBY.out HNI.out (by rw [List.length_append, nu_len, nu_len]; have := HIL.out; have := HX.out; have := HP.out; omega) (Nat.le_trans HB.out A2.out.2.1.size) ty
    go_wp2_with (at_builtin; apply Hid.out)
    refine wpList_app rfl (.tmp 18) (.tmp 19) 32 32 rfl v1 (.slice a n5 c) rfl rfl _ HA.out ?_
    rintro v3 w3 a3
    have A3 : Hid (ApO base w (xs ++ nu (plcL p (m : Int))) v3 w3) := ⟨by rw [E.out, numL, nu_app, ← List.append_assoc]; exact a3.1, A2.out.2.trans a3.2⟩
    clear a3 A2
    go_wp2_with fail
    go_ret
    exact ⟨v3, rfl, A3.out⟩
theorem rpword {w : World} {base : Nat} {v : Value} {xs : List Int} (p : List UInt8) (th : Bool) (s : List UInt8) (hs : s.length ≤ 64) (hown : OwnB base w v xs) (hp : p.length ≤ 20) (hb : xs.length + 256 ≤ 140737488355328) (hbase : base ≤ w.heap.size) :
    Calls Tryd.prog 48 #[v, tx p, .bool th, tx s] w fun e w' => ∃ v', e = .returned v' ∧ ApO base w (xs ++ nu (vaL p th s)) v' w' := by
  have HT : Hid _ := rptext p hown (by omega) hbase
  have HX : Hid (xs.length + 256 ≤ 140737488355328) := hb
  have HB : Hid (base ≤ w.heap.size) := hbase
  have HP : Hid (p.length ≤ 20) := hp
  clear hown hb hbase hp
  cases th
  · have E : Hid (vaL p false s = p ++ [45]) := rfl
    go_enter Tryd.func48, Tryd.ntmps48
    go_wp2_with fail
    refine Calls.mono HT.out ?_
    rintro e w1 ⟨v1, rfl, a1⟩
    have A1 : Hid (ApO base w (xs ++ nu p) v1 w1) := a1
    clear a1 HT
    go_wp2_with (at_builtin; apply Hid.out)
    refine wpList_app rfl (.tmp 15) (.tmp 16) 32 32 rfl v1 (.slice (some ⟨_, 0, none⟩) 1 1) rfl rfl _ (app_dash A1.out.1 (by rw [List.length_append, nu_len]; have := HX.out; have := HP.out; omega) (Nat.le_trans HB.out A1.out.2.1.size) 45 _ rfl) ?_
    rintro v2 w2 a2
    have A2 : Hid (ApO base w (xs ++ nu (vaL p false s)) v2 w2) := ⟨by rw [E.out, nu_app, ← List.append_assoc]; exact a2.1, A1.out.2.trans a2.2⟩
    clear a2 A1
    go_wp2_with fail
    go_ret
    exact ⟨v2, rfl, A2.out⟩
  · have E : Hid (vaL p true s = p ++ wd s) := rfl
    have HW : Hid (∀ w, _) := fun w => rword_any s w (by omega)
    have HWL : Hid ((wd s).length ≤ 129) := by
      show _ ≤ _
      unfold wd
      split
      · omega
      · rw [List.length_cons, hexs_len]; omega
    generalize wd s = S at *
    go_enter Tryd.func48, Tryd.ntmps48
    go_wp2_with fail
    refine Calls.mono HT.out ?_
    rintro e w1 ⟨v1, rfl, a1⟩
    have A1 : Hid (ApO base w (xs ++ nu p) v1 w1) := a1
    clear a1 HT
    go_wp2_with fail
    refine Calls.mono (HW.out _) ?_
    rintro e w2 ⟨v2, rfl, b2, c2, rfl, hby, hle, k2⟩
    have A2 : Hid (ApO base w (xs ++ nu p) v1 w2) := ⟨A1.out.1.kept k2 (fun _ _ h => h), A1.out.2.trans (Oth.kept k2)⟩
    have HBY : Hid (BytesAt w2 (some ⟨b2, 0, none⟩) (nu S)) := hby
    clear hby hle k2 A1 HW
    have HA : Hid (∀ ty, ∃ v' w', (Builtin.append_ #[32, 32] ty #[v1, .slice (some ⟨b2, 0, none⟩) S.length c2]).run Tryd.prog w2 = .ok v' w' ∧ ApO base w2 (xs ++ nu p ++ nu S) v' w') := fun ty => by
      have := app_rowO (c := c2) A2.out.1 HBY.out (fun e => by cases e) (by rw [List.length_append, nu_len, nu_len]; have := HWL.out; have := HX.out; have := HP.out; omega) (Nat.le_trans HB.out A2.out.2.1.size) ty
      rw [nu_len] at this
      exact this
    obtain ⟨n5, en5⟩ : ∃ n5, S.length = n5 := ⟨_, rfl⟩
    rw [en5] at HA ⊢
    clear en5
    go_wp2_with (at_builtin; apply Hid.out)
    refine wpList_app rfl (.tmp 20) (.tmp 21) 32 32 rfl v1 (.slice (some ⟨b2, 0, none⟩) n5 c2) rfl rfl _ HA.out ?_
    rintro v3 w3 a3
    have A3 : Hid (ApO base w (xs ++ nu (vaL p true s)) v3 w3) := ⟨by rw [E.out, nu_app, ← List.append_assoc]; exact a3.1, A2.out.2.trans a3.2⟩
    clear a3 A2
    go_wp2_with fail
    go_ret
    exact ⟨v3, rfl, A3.out⟩
/-- The document's table of the words of violations. -/
def vTab : Array Value := #[tx [], tx [105, 110, 118, 101, 114, 116, 101, 100], tx [99, 108, 105, 101, 110, 116], tx [101, 97, 114, 108, 121], tx [108, 97, 116, 101], tx [116, 119, 105, 110], tx [105, 110, 116, 101, 114, 110, 97, 108], tx [115, 110, 97, 112, 115, 104, 111, 116], tx [99, 111, 110, 102, 108, 105, 99, 116], tx [114, 101, 112, 101, 97, 116], tx [115, 101, 115, 115, 105, 111, 110]]
theorem vTab_at (i : Nat) (h : i < 11) : vTab[i]? = some (tx (vWord (i : Int))) := by
  match i, h with
  | 0, _ => rfl
  | 1, _ => rfl
  | 2, _ => rfl
  | 3, _ => rfl
  | 4, _ => rfl
  | 5, _ => rfl
  | 6, _ => rfl
  | 7, _ => rfl
  | 8, _ => rfl
  | 9, _ => rfl
  | 10, _ => rfl
  | n + 11, h => omega
theorem rkinds_any (w : World) : Calls Tryd.prog 47 #[] w fun e w' => e = .returned (.slice (some ⟨w.heap.size, 0, none⟩) 11 11) ∧ w' = w.alloc (.cells vTab 9 (0, 0)) := by
  unfold vTab
  go_enter Tryd.func47, Tryd.ntmps47
  go_wp2_with fail
  go_ret
  exact ⟨rfl, rfl⟩
end Go.Proofs.YtfhaiklfbnfdlaaDoor

namespace Go.Proofs.YtfhaiklfbnfdlaaDoor
open Go.RowKit

theorem plc_num {p : List UInt8} {n : Int} (h : 0 ≤ n) : plcL p n = numL p n := by unfold plcL; rw [if_neg (by omega)]
set_option maxRecDepth 100000 in
set_option maxHeartbeats 6400000 in
theorem rpline {w : World} {base : Nat} {v : Value} {xs : List Int} (x : Vi.Vl) (hx : Vi.okV x = true) (hown : OwnB base w v xs) (hb : xs.length + 2048 ≤ 140737488355328) (hbase : base ≤ w.heap.size) :
    Calls Tryd.prog 33 #[v, Vi.vlV x] w fun e w' => ∃ v', e = .returned v' ∧ ApO base w (xs ++ nu (vioL x)) v' w' := by
  have ho := Vi.okV_iff x |>.1 hx
  obtain ⟨kd, tm, txi, op, wit, key, wa, ex, gg, ob, fr, tt⟩ := x
  unfold Vi.vlV vioL
  dsimp only at ho ⊢
  obtain ⟨h0, h1, h2, h3, h4, h5, h6, h7, h8, h9⟩ := ho
  have hiv : (bt ex).length ≤ 16 ∧ (bt ob).length ≤ 16 ∧ (bt key).length ≤ 16 := by
    rw [bt_len, bt_len, bt_len]
    exact ⟨h8.1, h9.1, by omega⟩
  obtain ⟨i, rfl⟩ : ∃ i : Nat, kd = (i : Int) + 1 := ⟨(kd - 1).toNat, by omega⟩
  have hi : i < 10 := by omega
  have P0 : (vWord ((i : Int) + 1)).length ≤ 64 := Nat.le_trans (vWord_le _) (by decide)
  have P1 : (numL [32, 116, 105, 109, 101, 32] tm).length ≤ 64 := Nat.le_trans (numL_le (by decide) (by omega) (by omega)) (by decide)
  have P2 : (numL [32, 116, 120, 110, 32] txi).length ≤ 64 := Nat.le_trans (numL_le (by decide) (by omega) (by omega)) (by decide)
  have P3 : (plcL [32, 111, 112, 32] op).length ≤ 64 := Nat.le_trans (plcL_le (by decide) (by omega) (by omega)) (by decide)
  have P4 : (plcL [32, 119, 105, 116, 110, 101, 115, 115, 32] wit).length ≤ 64 := Nat.le_trans (plcL_le (by decide) (by omega) (by omega)) (by decide)
  have P5 : (vaL [32, 107, 101, 121, 32] true (bt key)).length ≤ 64 := Nat.le_trans (vaL_le (by decide) (by first | exact hiv.1 | exact hiv.2.1 | exact hiv.2.2)) (by decide)
  have P6 : (vaL [32, 119, 97, 110, 116, 32] wa (bt ex)).length ≤ 64 := Nat.le_trans (vaL_le (by decide) (by first | exact hiv.1 | exact hiv.2.1 | exact hiv.2.2)) (by decide)
  have P7 : (vaL [32, 103, 111, 116, 32] gg (bt ob)).length ≤ 64 := Nat.le_trans (vaL_le (by decide) (by first | exact hiv.1 | exact hiv.2.1 | exact hiv.2.2)) (by decide)
  have P8 : (numL [32, 102, 114, 111, 109, 32] fr).length ≤ 64 := Nat.le_trans (numL_le (by decide) (by omega) (by omega)) (by decide)
  have P9 : (numL [32, 116, 111, 32] tt).length ≤ 64 := Nat.le_trans (numL_le (by decide) (by omega) (by omega)) (by decide)
  have H1 : Hid (∀ W v ys, OwnB base W v ys → Oth base w W → ys.length + 64 ≤ 140737488355328 → Calls Tryd.prog 32 #[v, tx [32, 116, 105, 109, 101, 32], .int .i64 tm] W fun e w' => ∃ v', e = .returned v' ∧ ApO base W (ys ++ nu (numL [32, 116, 105, 109, 101, 32] tm)) v' w') := fun W v ys o k hy => by
    rw [← plc_num (by omega)]
    exact rpnumber [32, 116, 105, 109, 101, 32] tm (by omega) (by omega) o (by decide) hy (Nat.le_trans hbase k.1.size)
  have H2 : Hid (∀ W v ys, OwnB base W v ys → Oth base w W → ys.length + 64 ≤ 140737488355328 → Calls Tryd.prog 32 #[v, tx [32, 116, 120, 110, 32], .int .i64 txi] W fun e w' => ∃ v', e = .returned v' ∧ ApO base W (ys ++ nu (numL [32, 116, 120, 110, 32] txi)) v' w') := fun W v ys o k hy => by
    rw [← plc_num (by omega)]
    exact rpnumber [32, 116, 120, 110, 32] txi (by omega) (by omega) o (by decide) hy (Nat.le_trans hbase k.1.size)
  have H3 : Hid (∀ W v ys, OwnB base W v ys → Oth base w W → ys.length + 64 ≤ 140737488355328 → Calls Tryd.prog 32 #[v, tx [32, 111, 112, 32], .int .i64 op] W fun e w' => ∃ v', e = .returned v' ∧ ApO base W (ys ++ nu (plcL [32, 111, 112, 32] op)) v' w') := fun W v ys o k hy => by
    exact rpnumber [32, 111, 112, 32] op (by omega) (by omega) o (by decide) hy (Nat.le_trans hbase k.1.size)
  have H4 : Hid (∀ W v ys, OwnB base W v ys → Oth base w W → ys.length + 64 ≤ 140737488355328 → Calls Tryd.prog 32 #[v, tx [32, 119, 105, 116, 110, 101, 115, 115, 32], .int .i64 wit] W fun e w' => ∃ v', e = .returned v' ∧ ApO base W (ys ++ nu (plcL [32, 119, 105, 116, 110, 101, 115, 115, 32] wit)) v' w') := fun W v ys o k hy => by
    exact rpnumber [32, 119, 105, 116, 110, 101, 115, 115, 32] wit (by omega) (by omega) o (by decide) hy (Nat.le_trans hbase k.1.size)
  have H5 : Hid (∀ W v ys, OwnB base W v ys → Oth base w W → ys.length + 256 ≤ 140737488355328 → Calls Tryd.prog 48 #[v, tx [32, 107, 101, 121, 32], .bool true, .string key] W fun e w' => ∃ v', e = .returned v' ∧ ApO base W (ys ++ nu (vaL [32, 107, 101, 121, 32] true (bt key))) v' w') := fun W v ys o k hy => rpword [32, 107, 101, 121, 32] true (bt key) (by have := hiv.1; have := hiv.2.1; have := hiv.2.2; omega) o (by decide) hy (Nat.le_trans hbase k.1.size)
  have H6 : Hid (∀ W v ys, OwnB base W v ys → Oth base w W → ys.length + 256 ≤ 140737488355328 → Calls Tryd.prog 48 #[v, tx [32, 119, 97, 110, 116, 32], .bool wa, .string ex] W fun e w' => ∃ v', e = .returned v' ∧ ApO base W (ys ++ nu (vaL [32, 119, 97, 110, 116, 32] wa (bt ex))) v' w') := fun W v ys o k hy => rpword [32, 119, 97, 110, 116, 32] wa (bt ex) (by have := hiv.1; have := hiv.2.1; have := hiv.2.2; omega) o (by decide) hy (Nat.le_trans hbase k.1.size)
  have H7 : Hid (∀ W v ys, OwnB base W v ys → Oth base w W → ys.length + 256 ≤ 140737488355328 → Calls Tryd.prog 48 #[v, tx [32, 103, 111, 116, 32], .bool gg, .string ob] W fun e w' => ∃ v', e = .returned v' ∧ ApO base W (ys ++ nu (vaL [32, 103, 111, 116, 32] gg (bt ob))) v' w') := fun W v ys o k hy => rpword [32, 103, 111, 116, 32] gg (bt ob) (by have := hiv.1; have := hiv.2.1; have := hiv.2.2; omega) o (by decide) hy (Nat.le_trans hbase k.1.size)
  have H8 : Hid (∀ W v ys, OwnB base W v ys → Oth base w W → ys.length + 64 ≤ 140737488355328 → Calls Tryd.prog 32 #[v, tx [32, 102, 114, 111, 109, 32], .int .i64 fr] W fun e w' => ∃ v', e = .returned v' ∧ ApO base W (ys ++ nu (numL [32, 102, 114, 111, 109, 32] fr)) v' w') := fun W v ys o k hy => by
    rw [← plc_num (by omega)]
    exact rpnumber [32, 102, 114, 111, 109, 32] fr (by omega) (by omega) o (by decide) hy (Nat.le_trans hbase k.1.size)
  have H9 : Hid (∀ W v ys, OwnB base W v ys → Oth base w W → ys.length + 64 ≤ 140737488355328 → Calls Tryd.prog 32 #[v, tx [32, 116, 111, 32], .int .i64 tt] W fun e w' => ∃ v', e = .returned v' ∧ ApO base W (ys ++ nu (numL [32, 116, 111, 32] tt)) v' w') := fun W v ys o k hy => by
    rw [← plc_num (by omega)]
    exact rpnumber [32, 116, 111, 32] tt (by omega) (by omega) o (by decide) hy (Nat.le_trans hbase k.1.size)
  have H0 : Hid (∀ W v ys, OwnB base W v ys → Oth base w W → ys.length + 64 ≤ 140737488355328 → Calls Tryd.prog 31 #[v, tx (vWord ((i : Int) + 1))] W fun e w' => ∃ v', e = .returned v' ∧ ApO base W (ys ++ nu (vWord ((i : Int) + 1))) v' w') := fun W v ys o k hy => rptext _ o (by omega) (Nat.le_trans hbase k.1.size)
  have HK : Hid (∀ W, _) := rkinds_any
  have HPL : Hid ((vWord ((i : Int) + 1)).length ≤ 64 ∧ (numL [32, 116, 105, 109, 101, 32] tm).length ≤ 64 ∧ (numL [32, 116, 120, 110, 32] txi).length ≤ 64 ∧ (plcL [32, 111, 112, 32] op).length ≤ 64 ∧ (plcL [32, 119, 105, 116, 110, 101, 115, 115, 32] wit).length ≤ 64 ∧ (vaL [32, 107, 101, 121, 32] true (bt key)).length ≤ 64 ∧ (vaL [32, 119, 97, 110, 116, 32] wa (bt ex)).length ≤ 64 ∧ (vaL [32, 103, 111, 116, 32] gg (bt ob)).length ≤ 64 ∧ (numL [32, 102, 114, 111, 109, 32] fr).length ≤ 64 ∧ (numL [32, 116, 111, 32] tt).length ≤ 64) := ⟨P0, P1, P2, P3, P4, P5, P6, P7, P8, P9⟩
  have HC : Hid (vTab[i + 1]? = some (tx (vWord ((i : Int) + 1)))) := vTab_at (i + 1) (by omega)
  clear P0 P1 P2 P3 P4 P5 P6 P7 P8 P9 h1 h2 h3 h4 h5 h6 h7 h8 h9 hiv
  generalize vWord ((i : Int) + 1) = S0 at *
  generalize numL [32, 116, 105, 109, 101, 32] tm = S1 at *
  generalize numL [32, 116, 120, 110, 32] txi = S2 at *
  generalize plcL [32, 111, 112, 32] op = S3 at *
  generalize plcL [32, 119, 105, 116, 110, 101, 115, 115, 32] wit = S4 at *
  generalize vaL [32, 107, 101, 121, 32] true (bt key) = S5 at *
  generalize vaL [32, 119, 97, 110, 116, 32] wa (bt ex) = S6 at *
  generalize vaL [32, 103, 111, 116, 32] gg (bt ob) = S7 at *
  generalize numL [32, 102, 114, 111, 109, 32] fr = S8 at *
  generalize numL [32, 116, 111, 32] tt = S9 at *
  have A0 : Hid (Ao base w (w.alloc (.cells #[.int .i64 ((i : Int) + 1), .int .i64 tm, .int .i64 txi, .int .i64 op, .int .i64 wit, .string key, .bool wa, .string ex, .bool gg, .string ob, .int .i64 fr, .int .i64 tt] 41 (0, 0))) v xs (.cells #[.int .i64 ((i : Int) + 1), .int .i64 tm, .int .i64 txi, .int .i64 op, .int .i64 wit, .string key, .bool wa, .string ex, .bool gg, .string ob, .int .i64 fr, .int .i64 tt] 41 (0, 0))) := ⟨hown.kept ((Same.refl (fun _ => False) w).alloc _) (fun _ _ h => h), Oth.kept ((Same.refl _ w).alloc _), heap_new w _⟩
  have hnt : (41 : Nat) ≠ 5 := by decide
  have HB : Hid (base ≤ w.heap.size) := hbase
  have HX : Hid (xs.length + 2048 ≤ 140737488355328) := hb
  clear hown hb hbase
  have hi1 : (i : Int) + 1 < 11 := by omega
  have hi0 : (0 : Int) ≤ (i : Int) + 1 := by omega
  have hin : ((i : Int) + 1).toNat = i + 1 := by omega
  go_enter Tryd.func33, Tryd.ntmps33
  go_wp2_with fail
  refine Calls.mono (HK.out _) ?_
  rintro e w1 ⟨rfl, rfl⟩
  have kk : Kept (w.alloc (.cells #[.int .i64 ((i : Int) + 1), .int .i64 tm, .int .i64 txi, .int .i64 op, .int .i64 wit, .string key, .bool wa, .string ex, .bool gg, .string ob, .int .i64 fr, .int .i64 tt] 41 (0, 0))) ((w.alloc (.cells #[.int .i64 ((i : Int) + 1), .int .i64 tm, .int .i64 txi, .int .i64 op, .int .i64 wit, .string key, .bool wa, .string ex, .bool gg, .string ob, .int .i64 fr, .int .i64 tt] 41 (0, 0))).alloc (.cells vTab 9 (0, 0))) := (Same.refl _ _).alloc _
  have A1 : Hid (Ao base w ((w.alloc (.cells #[.int .i64 ((i : Int) + 1), .int .i64 tm, .int .i64 txi, .int .i64 op, .int .i64 wit, .string key, .bool wa, .string ex, .bool gg, .string ob, .int .i64 fr, .int .i64 tt] 41 (0, 0))).alloc (.cells vTab 9 (0, 0))) v xs (.cells #[.int .i64 ((i : Int) + 1), .int .i64 tm, .int .i64 txi, .int .i64 op, .int .i64 wit, .string key, .bool wa, .string ex, .bool gg, .string ob, .int .i64 fr, .int .i64 tt] 41 (0, 0))) := ⟨A0.out.own.kept kk (fun _ _ h => h), A0.out.oth.trans (Oth.kept kk), (kk.block _ (lt_of_heap A0.out.box) (fun e => e)).trans A0.out.box⟩
  have TB : Hid (((w.alloc (.cells #[.int .i64 ((i : Int) + 1), .int .i64 tm, .int .i64 txi, .int .i64 op, .int .i64 wit, .string key, .bool wa, .string ex, .bool gg, .string ob, .int .i64 fr, .int .i64 tt] 41 (0, 0))).alloc (.cells vTab 9 (0, 0))).heap[(w.alloc (.cells #[.int .i64 ((i : Int) + 1), .int .i64 tm, .int .i64 txi, .int .i64 op, .int .i64 wit, .string key, .bool wa, .string ex, .bool gg, .string ob, .int .i64 fr, .int .i64 tt] 41 (0, 0))).heap.size]? = some (.cells vTab 9 (0, 0))) := heap_new _ _
  generalize (w.alloc (.cells #[.int .i64 ((i : Int) + 1), .int .i64 tm, .int .i64 txi, .int .i64 op, .int .i64 wit, .string key, .bool wa, .string ex, .bool gg, .string ob, .int .i64 fr, .int .i64 tt] 41 (0, 0))).alloc (.cells vTab 9 (0, 0)) = W1 at A1 TB ⊢
  generalize (w.alloc (.cells #[.int .i64 ((i : Int) + 1), .int .i64 tm, .int .i64 txi, .int .i64 op, .int .i64 wit, .string key, .bool wa, .string ex, .bool gg, .string ob, .int .i64 fr, .int .i64 tt] 41 (0, 0))).heap.size = g at TB ⊢
  clear kk A0
  obtain ⟨d0, d1, d2, d3, d4, d5, d6, d7, d8, d9, d10, d11⟩ := vl_obj A1.out.box
  have ld := lt_of_heap A1.out.box
  have t0 : W1.cell? ⟨g, i + 1, none⟩ = some (tx S0) := (cell_of TB.out (i + 1)).trans HC.out
  have tl := lt_of_heap TB.out
  go_wp2_with fail
  refine Calls.mono (H0.out _ _ _ A1.out.own A1.out.oth (by have := HX.out; omega)) ?_
  rintro e w2 ⟨v2, rfl, a9⟩
  have A2 : Hid _ := A1.out.go hnt a9
  clear a9 A1 t0 tl TB
  clear d0 d1 d2 d3 d4 d5 d6 d7 d8 d9 d10 d11 ld
  obtain ⟨d0, d1, d2, d3, d4, d5, d6, d7, d8, d9, d10, d11⟩ := vl_obj A2.out.box
  have ld := lt_of_heap A2.out.box
  go_wp2_with fail
  refine Calls.mono (H1.out _ _ _ A2.out.own A2.out.oth (by simp only [List.length_append, nu_len]; have := HX.out; have := HPL.out; omega)) ?_
  rintro e w3 ⟨v3, rfl, a9⟩
  have A3 : Hid _ := A2.out.go hnt a9
  clear a9 A2
  clear d0 d1 d2 d3 d4 d5 d6 d7 d8 d9 d10 d11 ld
  obtain ⟨d0, d1, d2, d3, d4, d5, d6, d7, d8, d9, d10, d11⟩ := vl_obj A3.out.box
  have ld := lt_of_heap A3.out.box
  go_wp2_with fail
  refine Calls.mono (H2.out _ _ _ A3.out.own A3.out.oth (by simp only [List.length_append, nu_len]; have := HX.out; have := HPL.out; omega)) ?_
  rintro e w4 ⟨v4, rfl, a9⟩
  have A4 : Hid _ := A3.out.go hnt a9
  clear a9 A3
  clear d0 d1 d2 d3 d4 d5 d6 d7 d8 d9 d10 d11 ld
  obtain ⟨d0, d1, d2, d3, d4, d5, d6, d7, d8, d9, d10, d11⟩ := vl_obj A4.out.box
  have ld := lt_of_heap A4.out.box
  go_wp2_with fail
  refine Calls.mono (H3.out _ _ _ A4.out.own A4.out.oth (by simp only [List.length_append, nu_len]; have := HX.out; have := HPL.out; omega)) ?_
  rintro e w5 ⟨v5, rfl, a9⟩
  have A5 : Hid _ := A4.out.go hnt a9
  clear a9 A4
  clear d0 d1 d2 d3 d4 d5 d6 d7 d8 d9 d10 d11 ld
  obtain ⟨d0, d1, d2, d3, d4, d5, d6, d7, d8, d9, d10, d11⟩ := vl_obj A5.out.box
  have ld := lt_of_heap A5.out.box
  go_wp2_with fail
  refine Calls.mono (H4.out _ _ _ A5.out.own A5.out.oth (by simp only [List.length_append, nu_len]; have := HX.out; have := HPL.out; omega)) ?_
  rintro e w6 ⟨v6, rfl, a9⟩
  have A6 : Hid _ := A5.out.go hnt a9
  clear a9 A5
  clear d0 d1 d2 d3 d4 d5 d6 d7 d8 d9 d10 d11 ld
  obtain ⟨d0, d1, d2, d3, d4, d5, d6, d7, d8, d9, d10, d11⟩ := vl_obj A6.out.box
  have ld := lt_of_heap A6.out.box
  go_wp2_with fail
  refine Calls.mono (H5.out _ _ _ A6.out.own A6.out.oth (by simp only [List.length_append, nu_len]; have := HX.out; have := HPL.out; omega)) ?_
  rintro e w7 ⟨v7, rfl, a9⟩
  have A7 : Hid _ := A6.out.go hnt a9
  clear a9 A6
  clear d0 d1 d2 d3 d4 d5 d6 d7 d8 d9 d10 d11 ld
  obtain ⟨d0, d1, d2, d3, d4, d5, d6, d7, d8, d9, d10, d11⟩ := vl_obj A7.out.box
  have ld := lt_of_heap A7.out.box
  go_wp2_with fail
  refine Calls.mono (H6.out _ _ _ A7.out.own A7.out.oth (by simp only [List.length_append, nu_len]; have := HX.out; have := HPL.out; omega)) ?_
  rintro e w8 ⟨v8, rfl, a9⟩
  have A8 : Hid _ := A7.out.go hnt a9
  clear a9 A7
  clear d0 d1 d2 d3 d4 d5 d6 d7 d8 d9 d10 d11 ld
  obtain ⟨d0, d1, d2, d3, d4, d5, d6, d7, d8, d9, d10, d11⟩ := vl_obj A8.out.box
  have ld := lt_of_heap A8.out.box
  go_wp2_with fail
  refine Calls.mono (H7.out _ _ _ A8.out.own A8.out.oth (by simp only [List.length_append, nu_len]; have := HX.out; have := HPL.out; omega)) ?_
  rintro e w9 ⟨v9, rfl, a9⟩
  have A9 : Hid _ := A8.out.go hnt a9
  clear a9 A8
  clear d0 d1 d2 d3 d4 d5 d6 d7 d8 d9 d10 d11 ld
  obtain ⟨d0, d1, d2, d3, d4, d5, d6, d7, d8, d9, d10, d11⟩ := vl_obj A9.out.box
  have ld := lt_of_heap A9.out.box
  go_wp2_with fail
  refine Calls.mono (H8.out _ _ _ A9.out.own A9.out.oth (by simp only [List.length_append, nu_len]; have := HX.out; have := HPL.out; omega)) ?_
  rintro e w10 ⟨v10, rfl, a9⟩
  have A10 : Hid _ := A9.out.go hnt a9
  clear a9 A9
  clear d0 d1 d2 d3 d4 d5 d6 d7 d8 d9 d10 d11 ld
  obtain ⟨d0, d1, d2, d3, d4, d5, d6, d7, d8, d9, d10, d11⟩ := vl_obj A10.out.box
  have ld := lt_of_heap A10.out.box
  go_wp2_with fail
  refine Calls.mono (H9.out _ _ _ A10.out.own A10.out.oth (by simp only [List.length_append, nu_len]; have := HX.out; have := HPL.out; omega)) ?_
  rintro e w11 ⟨v11, rfl, a9⟩
  have A11 : Hid _ := A10.out.go hnt a9
  clear a9 A10
  clear d0 d1 d2 d3 d4 d5 d6 d7 d8 d9 d10 d11 ld
  obtain ⟨d0, d1, d2, d3, d4, d5, d6, d7, d8, d9, d10, d11⟩ := vl_obj A11.out.box
  have ld := lt_of_heap A11.out.box
  go_wp2_with (at_builtin; apply Hid.out)
  refine wpList_app rfl (.tmp 54) (.tmp 55) 32 32 rfl _ (.slice (some ⟨_, 0, none⟩) 1 1) rfl rfl _ (app_dash A11.out.own (by simp only [List.length_append, nu_len]; have := HX.out; have := HPL.out; omega) (A11.out.size HB.out) 10 _ rfl) ?_
  rintro v12 w12 a9
  have A12 : Hid _ := A11.out.go hnt a9
  clear a9 A11
  go_wp2_with fail
  go_ret
  refine ⟨v12, rfl, ?_, A12.out.oth⟩
  have h9 := A12.out.own
  simp only [nu_app, List.append_assoc] at h9 ⊢
  exact h9
end Go.Proofs.YtfhaiklfbnfdlaaDoor
