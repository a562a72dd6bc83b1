/- What is proved: the document's text, number, word, kinds; conditions: lengths. -/
import Derived.Test.YtfhaiklfbnfdlaaDoorRoE
import Derived.Test.YtfhaiklfbnfdlaaDoorRoO
import Derived.Test.YtfhaiklfbnfdlaaDoorNoRl
namespace Go.Proofs.YtfhaiklfbnfdlaaDoor
open Go.RowKit

theorem rptext {w : World} {base : Nat} {v : Value} {xs : List Int} (p : List UInt8) (hown : OwnB base w v xs) (hb : xs.length + p.length ≤ 140737488355328) (hbase : base ≤ w.heap.size) :
    Calls Tryd.prog 31 #[v, tx p] w fun e w' => ∃ v', e = .returned v' ∧ ApO base w (xs ++ nu p) v' w' := by
  have HA : Hid _ := app_txO p hown hb hbase
  clear hown
  go_enter Tryd.func31, Tryd.ntmps31
  go_wp2_with (at_builtin; refine wpList_app rfl (.tmp 5) (.tmp 6) 32 9 rfl v (tx p) rfl rfl _ HA.out ?_; rintro v2 w2 a2; have A2 : Hid _ := a2; clear a2)
  go_ret
  exact ⟨v2, rfl, A2.out⟩
theorem app_dash {w : World} {base : Nat} {v : Value} {xs : List Int} (hown : OwnB base w v xs) (hb : xs.length + 1 ≤ 140737488355328) (hbase : base ≤ w.heap.size) (c : UInt8) (g : Nat) (hg : g = w.heap.size) (ty : TypeId) :
    ∃ v' w', (Builtin.append_ #[32, 32] ty #[v, .slice (some ⟨g, 0, none⟩) 1 1]).run Tryd.prog (w.alloc (.cells #[.int .u8 (c.toNat : Int)] 5)) = .ok v' w' ∧ ApO base w (xs ++ nu [c]) v' w' :=
  app_litO [(c.toNat : Int)] hown (by simpa using hb) hbase g hg ty
theorem rpnumber {w : World} {base : Nat} {v : Value} {xs : List Int} (p : List UInt8) (n : Int) (h0 : -1 ≤ n) (h1 : n ≤ 9223372036854775807) (hown : OwnB base w v xs) (hp : p.length ≤ 20) (hb : xs.length + 64 ≤ 140737488355328) (hbase : base ≤ w.heap.size) :
    Calls Tryd.prog 32 #[v, tx p, .int .i64 n] w fun e w' => ∃ v', e = .returned v' ∧ ApO base w (xs ++ nu (plcL p n)) v' w' := by
  have HT : Hid _ := rptext p hown (by omega) hbase
  have HX : Hid (xs.length + 64 ≤ 140737488355328) := hb
  have HB : Hid (base ≤ w.heap.size) := hbase
  have HP : Hid (p.length ≤ 20) := hp
  clear hown hb hbase hp
  by_cases hn : n < 0
  · have d : decide (n < 0) = true := decide_eq_true hn
    have E : Hid (plcL p n = p ++ [45]) := by show _ = _; unfold plcL; rw [if_pos hn]
    go_enter Tryd.func32, Tryd.ntmps32
    go_wp2_with fail
    refine Calls.mono HT.out ?_
    rintro e w1 ⟨v1, rfl, a1⟩
    have A1 : Hid (ApO base w (xs ++ nu p) v1 w1) := a1
    clear a1 HT
    go_wp2_with (at_builtin; apply Hid.out)
    refine wpList_app rfl (.tmp 13) (.tmp 14) 32 32 rfl v1 (.slice (some ⟨_, 0, none⟩) 1 1) rfl rfl _ (app_dash A1.out.1 (by rw [List.length_append, nu_len]; have := HX.out; have := HP.out; omega) (Nat.le_trans HB.out A1.out.2.1.size) 45 _ rfl) ?_
    rintro v2 w2 a2
    have A2 : Hid (ApO base w (xs ++ nu (plcL p n)) v2 w2) := ⟨by rw [E.out, nu_app, ← List.append_assoc]; exact a2.1, A1.out.2.trans a2.2⟩
    clear a2 A1
    go_wp2_with fail
    go_ret
    exact ⟨v2, rfl, A2.out⟩
  · have d : decide (n < 0) = false := decide_eq_false hn
    have E : Hid (plcL p n = numL p n) := by show _ = _; unfold plcL; rw [if_neg hn]
    obtain ⟨m, rfl⟩ : ∃ m : Nat, n = (m : Int) := ⟨n.toNat, by omega⟩
    have HD : Hid (∀ w, _) := fun w => rdigits_any m (by omega) w
    have HIL : Hid ((Lib.itoa (m : Int)).length ≤ 21) := Lib.itoa_length_le _ (by omega) (by omega)
    go_enter Tryd.func32, Tryd.ntmps32
    go_wp2_with fail
    refine Calls.mono HT.out ?_
    rintro e w1 ⟨v1, rfl, a1⟩
    have A1 : Hid (ApO base w (xs ++ nu p) v1 w1) := a1
    clear a1 HT
    go_wp2_with fail
    refine Calls.mono (HD.out _) ?_
    rintro e w2 ⟨v2, rfl, o2, k2⟩
    obtain ⟨a, c, rfl, hby, hnil⟩ := OwnB.bytes o2
    have A2 : Hid (ApO base w (xs ++ nu p) v1 w2) := ⟨A1.out.1.kept k2 (fun _ _ h => h), A1.out.2.trans (Oth.kept k2)⟩
    have HBY : Hid (BytesAt w2 a (nu (Lib.itoa (m : Int)))) := hby
    have HNI : Hid (a = none → (nu (Lib.itoa (m : Int))).length = 0 ∧ c = 0) := hnil.2.1
    clear o2 k2 hby hnil A1 HD
    obtain ⟨n5, en5⟩ : ∃ n5, (nu (Lib.itoa (m : Int))).length = n5 := ⟨_, rfl⟩
    have HEN : Hid ((nu (Lib.itoa (m : Int))).length = n5) := en5
    rw [en5]
    clear en5
    have HA : Hid (∀ ty, ∃ v' w', (Builtin.append_ #[32, 32] ty #[v1, .slice a n5 c]).run Tryd.prog w2 = .ok v' w' ∧ ApO base w2 (xs ++ nu p ++ nu (Lib.itoa (m : Int))) v' w') := fun ty => by
      rw [← HEN.out]
      exact app_rowO (c := c) A2.out.1 HBY.out HNI.out (by rw [List.length_append, nu_len, nu_len]; have := HIL.out; have := HX.out; have := HP.out; omega) (Nat.le_trans HB.out A2.out.2.1.size) ty
    go_wp2_with (at_builtin; apply Hid.out)
    refine wpList_app rfl (.tmp 18) (.tmp 19) 32 32 rfl v1 (.slice a n5 c) rfl rfl _ HA.out ?_
    rintro v3 w3 a3
    have A3 : Hid (ApO base w (xs ++ nu (plcL p (m : Int))) v3 w3) := ⟨by rw [E.out, numL, nu_app, ← List.append_assoc]; exact a3.1, A2.out.2.trans a3.2⟩
    clear a3 A2
    go_wp2_with fail
    go_ret
    exact ⟨v3, rfl, A3.out⟩
theorem rpword {w : World} {base : Nat} {v : Value} {xs : List Int} (p : List UInt8) (th : Bool) (s : List UInt8) (hs : s.length ≤ 64) (hown : OwnB base w v xs) (hp : p.length ≤ 20) (hb : xs.length + 256 ≤ 140737488355328) (hbase : base ≤ w.heap.size) :
    Calls Tryd.prog 48 #[v, tx p, .bool th, tx s] w fun e w' => ∃ v', e = .returned v' ∧ ApO base w (xs ++ nu (vaL p th s)) v' w' := by
  have HT : Hid _ := rptext p hown (by omega) hbase
  have HX : Hid (xs.length + 256 ≤ 140737488355328) := hb
  have HB : Hid (base ≤ w.heap.size) := hbase
  have HP : Hid (p.length ≤ 20) := hp
  clear hown hb hbase hp
  cases th
  · have E : Hid (vaL p false s = p ++ [45]) := rfl
    go_enter Tryd.func48, Tryd.ntmps48
    go_wp2_with fail
    refine Calls.mono HT.out ?_
    rintro e w1 ⟨v1, rfl, a1⟩
    have A1 : Hid (ApO base w (xs ++ nu p) v1 w1) := a1
    clear a1 HT
    go_wp2_with (at_builtin; apply Hid.out)
    refine wpList_app rfl (.tmp 15) (.tmp 16) 32 32 rfl v1 (.slice (some ⟨_, 0, none⟩) 1 1) rfl rfl _ (app_dash A1.out.1 (by rw [List.length_append, nu_len]; have := HX.out; have := HP.out; omega) (Nat.le_trans HB.out A1.out.2.1.size) 45 _ rfl) ?_
    rintro v2 w2 a2
    have A2 : Hid (ApO base w (xs ++ nu (vaL p false s)) v2 w2) := ⟨by rw [E.out, nu_app, ← List.append_assoc]; exact a2.1, A1.out.2.trans a2.2⟩
    clear a2 A1
    go_wp2_with fail
    go_ret
    exact ⟨v2, rfl, A2.out⟩
  · have E : Hid (vaL p true s = p ++ wd s) := rfl
    have HW : Hid (∀ w, _) := fun w => rword_any s w (by omega)
    have HWL : Hid ((wd s).length ≤ 129) := by
      show _ ≤ _
      unfold wd
      split
      · omega
      · rw [List.length_cons, hexs_len]; omega
    generalize wd s = S at *
    go_enter Tryd.func48, Tryd.ntmps48
    go_wp2_with fail
    refine Calls.mono HT.out ?_
    rintro e w1 ⟨v1, rfl, a1⟩
    have A1 : Hid (ApO base w (xs ++ nu p) v1 w1) := a1
    clear a1 HT
    go_wp2_with fail
    refine Calls.mono (HW.out _) ?_
    rintro e w2 ⟨v2, rfl, b2, c2, rfl, hby, hle, k2⟩
    have A2 : Hid (ApO base w (xs ++ nu p) v1 w2) := ⟨A1.out.1.kept k2 (fun _ _ h => h), A1.out.2.trans (Oth.kept k2)⟩
    have HBY : Hid (BytesAt w2 (some ⟨b2, 0, none⟩) (nu S)) := hby
    clear hby hle k2 A1 HW
    have HA : Hid (∀ ty, ∃ v' w', (Builtin.append_ #[32, 32] ty #[v1, .slice (some ⟨b2, 0, none⟩) S.length c2]).run Tryd.prog w2 = .ok v' w' ∧ ApO base w2 (xs ++ nu p ++ nu S) v' w') := fun ty => by
      have := app_rowO (c := c2) A2.out.1 HBY.out (fun e => by cases e) (by rw [List.length_append, nu_len, nu_len]; have := HWL.out; have := HX.out; have := HP.out; omega) (Nat.le_trans HB.out A2.out.2.1.size) ty
      rw [nu_len] at this
      exact this
    obtain ⟨n5, en5⟩ : ∃ n5, S.length = n5 := ⟨_, rfl⟩
    rw [en5] at HA ⊢
    clear en5
    go_wp2_with (at_builtin; apply Hid.out)
    refine wpList_app rfl (.tmp 20) (.tmp 21) 32 32 rfl v1 (.slice (some ⟨b2, 0, none⟩) n5 c2) rfl rfl _ HA.out ?_
    rintro v3 w3 a3
    have A3 : Hid (ApO base w (xs ++ nu (vaL p true s)) v3 w3) := ⟨by rw [E.out, nu_app, ← List.append_assoc]; exact a3.1, A2.out.2.trans a3.2⟩
    clear a3 A2
    go_wp2_with fail
    go_ret
    exact ⟨v3, rfl, A3.out⟩
/-- The document's table of the words of violations. -/
def vTab : Array Value := #[tx [], tx [105, 110, 118, 101, 114, 116, 101, 100], tx [99, 108, 105, 101, 110, 116], tx [101, 97, 114, 108, 121], tx [108, 97, 116, 101], tx [116, 119, 105, 110], tx [105, 110, 116, 101, 114, 110, 97, 108], tx [115, 110, 97, 112, 115, 104, 111, 116], tx [99, 111, 110, 102, 108, 105, 99, 116], tx [114, 101, 112, 101, 97, 116], tx [115, 101, 115, 115, 105, 111, 110]]
theorem vTab_at (i : Nat) (h : i < 11) : vTab[i]? = some (tx (vWord (i : Int))) := by
  match i, h with
  | 0, _ => rfl
  | 1, _ => rfl
  | 2, _ => rfl
  | 3, _ => rfl
  | 4, _ => rfl
  | 5, _ => rfl
  | 6, _ => rfl
  | 7, _ => rfl
  | 8, _ => rfl
  | 9, _ => rfl
  | 10, _ => rfl
  | n + 11, h => omega
theorem rkinds_any (w : World) : Calls Tryd.prog 47 #[] w fun e w' => e = .returned (.slice (some ⟨w.heap.size, 0, none⟩) 11 11) ∧ w' = w.alloc (.cells vTab 9 (0, 0)) := by
  unfold vTab
  go_enter Tryd.func47, Tryd.ntmps47
  go_wp2_with fail
  go_ret
  exact ⟨rfl, rfl⟩
end Go.Proofs.YtfhaiklfbnfdlaaDoor
