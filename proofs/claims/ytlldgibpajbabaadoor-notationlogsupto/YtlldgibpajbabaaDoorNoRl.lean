/- What is proved: the document's text, add, number; conditions: lengths. -/
import Derived.Test.YtlldgibpajbabaaDoorNoDb
namespace Go.Proofs.YtlldgibpajbabaaDoor
open Go.RowKit

theorem rtext_any21 {w : World} {base : Nat} {v : Value} {xs : List Int} (p : List UInt8) (hown : OwnB base w v xs) (hb : xs.length + p.length ≤ 140737488355328) (hbase : base ≤ w.heap.size) :
    Calls Tryd.prog 46 #[v, tx p] w fun e w' => ∃ v', e = .returned v' ∧ ApO base w (xs ++ nu p) v' w' := by
  have HA : Hid _ := app_txO p hown hb hbase
  clear hown
  go_enter Tryd.func46, Tryd.ntmps46
  go_wp2_with (at_builtin; refine wpList_app rfl (.tmp 5) (.tmp 6) 39 9 rfl v (tx p) rfl rfl _ HA.out ?_; rintro v2 w2 a2; have A2 : Hid _ := a2; clear a2)
  go_ret
  exact ⟨v2, rfl, A2.out⟩
theorem app_rowO {w : World} {base : Nat} {v : Value} {xs : List Int} {oa : Option Addr} {c : Nat} {l : List Int} (hown : OwnB base w v xs) (hl : BytesAt w oa l) (hnil : oa = none → l.length = 0 ∧ c = 0) (hb : xs.length + l.length ≤ 140737488355328) (hbase : base ≤ w.heap.size) (ty : TypeId) :
    ∃ v' w', (Builtin.append_ #[39, 39] ty #[v, .slice oa l.length c]).run Tryd.prog w = .ok v' w' ∧ ApO base w (xs ++ l) v' w' := by
  obtain ⟨i0, hi0, hz0, hz1, hz2⟩ := info_parts Tryd.infoByte
  cases oa with
  | none =>
    obtain ⟨h0, rfl⟩ := hnil rfl
    obtain rfl : l = [] := List.eq_nil_of_length_eq_zero h0
    refine ⟨v, w, run_append_owned_none (P := Tryd.prog) (w := w) base 39 ty 5 i0 1 Tryd.underlying39 hi0 v xs.length _ hown, ?_, Oth.refl _ _⟩
    simpa using hown
  | some ad =>
    obtain ⟨v', w', hr, r1, r2, _, r3⟩ := run_append_own_at (P := Tryd.prog) (w := w) base 39 ty 5 i0 _ 1 1 Tryd.underlying39 hi0 hz0 hz1 hz2 rfl (by decide) v xs.length _ hown ad l.length c (byt l) (by rw [length_byt, Nat.mul_one])
      (fun j u hu => by
        rw [byt_get] at hu
        obtain ⟨x, hx, rfl⟩ := Option.map_eq_some_iff.1 hu
        obtain ⟨b', off', e, _, hc⟩ := hl _ _ hx
        cases e
        rw [Addr.add_lit]
        exact hc) (byt_one _) (by unfold maxLen; omega) (by omega) hbase
    rw [← byt_append] at r1
    exact ⟨v', w', hr, by rw [OwnB, List.length_append]; exact r1, Oth.own hown (Same.of_grown r2 (fun k e => e))⟩
theorem radd_any {w : World} {base : Nat} {v : Value} {xs : List Int} {oa : Option Addr} {c : Nat} {l : List Int} (hown : OwnB base w v xs) (hl : BytesAt w oa l) (hnil : oa = none → l.length = 0 ∧ c = 0) (hb : xs.length + l.length ≤ 140737488355328) (hbase : base ≤ w.heap.size) :
    Calls Tryd.prog 25 #[v, .slice oa l.length c] w fun e w' => ∃ v', e = .returned v' ∧ ApO base w (xs ++ l) v' w' := by
  have HA : Hid _ := app_rowO hown hl hnil hb hbase
  clear hown hl hnil
  obtain ⟨n, en⟩ : ∃ n, n = l.length := ⟨_, rfl⟩
  rw [← en] at HA ⊢
  clear en
  go_enter Tryd.func25, Tryd.ntmps25
  go_wp2_with (at_builtin; refine wpList_app rfl (.tmp 5) (.tmp 6) 39 39 rfl v (.slice oa n c) rfl rfl _ HA.out ?_; rintro v2 w2 a2; have A2 : Hid _ := a2; clear a2)
  go_ret
  exact ⟨v2, rfl, A2.out⟩
theorem rnumL_any {w : World} {base : Nat} {v : Value} {xs : List Int} (p : List UInt8) (n : Nat) (hn : n ≤ 9223372036854775807) (hown : OwnB base w v xs) (hp : p.length ≤ 8) (hb : xs.length + 64 ≤ 140737488355328) (hbase : base ≤ w.heap.size) :
    Calls Tryd.prog 45 #[v, tx p, .int .i64 (n : Int)] w fun e w' => ∃ v', e = .returned v' ∧ ApO base w (xs ++ nu (numL p (n : Int))) v' w' := by
  have HT : Hid _ := rtext_any21 p hown (by omega) hbase
  have HD : Hid (∀ w, _) := fun w => rdigits_any n hn w
  have HIL : Hid ((Lib.itoa (n : Int)).length ≤ 21) := Lib.itoa_length_le _ (by omega) (by omega)
  clear hown
  go_enter Tryd.func45, Tryd.ntmps45
  go_wp2_with fail
  refine Calls.mono HT.out ?_
  rintro e w1 ⟨v1, rfl, a1⟩
  have A1 : Hid (ApO base w (xs ++ nu p) v1 w1) := a1
  clear a1 HT
  go_wp2_with fail
  refine Calls.mono (HD.out _) ?_
  rintro e w2 ⟨v2, rfl, o2, k2⟩
  obtain ⟨a, c, rfl, hby, hnil⟩ := OwnB.bytes o2
  have A2 : Hid (ApO base w (xs ++ nu p) v1 w2) := ⟨A1.out.1.kept k2 (fun _ _ h => h), A1.out.2.trans (Oth.kept k2)⟩
  have HA : Hid _ := radd_any (c := c) A2.out.1 hby hnil.2.1 (by rw [List.length_append, nu_len, nu_len]; have := HIL.out; omega) (Nat.le_trans hbase A2.out.2.1.size)
  clear o2 k2 hby hnil A1 HD
  go_wp2_with fail
  refine Calls.mono HA.out ?_
  rintro e w3 ⟨v3, rfl, a3⟩
  have A3 : Hid (ApO base w (xs ++ nu (numL p (n : Int))) v3 w3) := ⟨by rw [numL, nu_app, ← List.append_assoc]; exact a3.1, A2.out.2.trans a3.2⟩
  clear a3 A2
  go_wp2_with fail
  go_ret
  exact ⟨v3, rfl, A3.out⟩
end Go.Proofs.YtlldgibpajbabaaDoor
