/- What is proved: the document's Unword; condition: lengths. -/
import Derived.Test.YtlldgibpajbabaaDoorNoRh
namespace Go.Proofs.YtlldgibpajbabaaDoor
open Go.RowKit

def ruV (o : Option (List UInt8)) : Value := match o with
  | some s => .tuple #[tx s, .bool true]
  | none => .tuple #[tx [], .bool false]
theorem uwd_even {l : List UInt8} (hp : ¬ pln l = true) (h : ¬ l.length % 2 = 1) : uwd l = none := by
  unfold uwd
  rw [if_neg hp]
  cases l with
  | nil => rfl
  | cons a r =>
    dsimp only
    split
    · rw [unhx_odd r (by simp at h; omega)]
    · rfl
set_option maxRecDepth 100000 in
set_option maxHeartbeats 1600000 in
theorem runword_any (l : List UInt8) (w : World) (hl : l.length ≤ 140737488351232) : Calls Tryd.prog 56 #[tx l] w fun e w' => e = .returned (ruV (uwd l)) ∧ Kept w w' := by
  have HP : Hid (∀ w, _) := fun w => rplain_any l w (by omega)
  by_cases hp : pln l = true
  · have R : Hid (uwd l = some l) := by show _ = _; unfold uwd; rw [if_pos hp]
    go_enter Tryd.func56, Tryd.ntmps56
    go_wp2_with fail
    refine Calls.mono (HP.out _) ?_
    rintro e w1 ⟨rfl, e1⟩
    subst e1
    rw [hp]
    go_wp2_with fail
    go_ret2
    rw [R.out]
    exact ⟨rfl, Same.refl _ _⟩
  have hp' : pln l = false := by simpa using hp
  by_cases ho : ¬ l.length % 2 = 1
  · have R : Hid (uwd l = none) := uwd_even hp ho
    have q : (((l.length : Int)) % 2 != 1) = true := by simp; omega
    clear hp ho
    go_enter Tryd.func56, Tryd.ntmps56
    go_wp2_with fail
    refine Calls.mono (HP.out _) ?_
    rintro e w1 ⟨rfl, e1⟩
    subst e1
    rw [hp']
    go_wp2_with fail
    go_ret2
    rw [R.out]
    exact ⟨rfl, Same.refl _ _⟩
  replace ho : l.length % 2 = 1 := Decidable.not_not.1 ho
  have q : (((l.length : Int)) % 2 != 1) = false := by simp; omega
  rcases l with _ | ⟨a, r⟩
  · simp at ho
  have hix0 : ∀ w, (Instr.index 9 (tx (a :: r)) (.int .i64 0)).run Tryd.prog w = _ := idx_tx (i := 0) rfl
  by_cases ha : ¬ a = 35
  · have q35 : ((a.toNat : Int) != 35) = true := by
      have := (eq_b a 35).trans (beq_eq_false_iff_ne.2 ha)
      rw [bne, show (35 : Int) = ((35 : UInt8).toNat : Int) from rfl, this]
      rfl
    have q35' : ((a.toNat : Int) == 35) = false := (eq_b a 35).trans (beq_eq_false_iff_ne.2 ha)
    have R : Hid (uwd (a :: r) = none) := by
      show _ = _
      unfold uwd
      rw [if_neg hp]
      dsimp only
      rw [if_neg ha]
    generalize a :: r = L at *
    clear hp ho ha
    go_enter Tryd.func56, Tryd.ntmps56
    go_wp2_with fail
    refine Calls.mono (HP.out _) ?_
    rintro e w1 ⟨rfl, e1⟩
    subst e1
    rw [hp']
    go_wp2_with fail
    go_ret2
    rw [R.out]
    exact ⟨rfl, Same.refl _ _⟩
  replace ha : a = 35 := Decidable.not_not.1 ha
  have q35 : ((a.toNat : Int) != 35) = false := by rw [ha]; rfl
  have q35' : ((a.toNat : Int) == 35) = true := by rw [ha]; rfl
  have RR : Hid (∀ o, unhx r = o → uwd (a :: r) = match o with | some s => if pln s = true then none else some s | none => none) := fun o eo => by
    unfold uwd
    rw [if_neg hp]
    dsimp only
    rw [if_pos ha, eo]
    cases o <;> rfl
  have HPA : Hid (∀ (s : List UInt8) w, s.length ≤ 281474976710656 → _) := fun s w h => rplain_any s w h
  have HD : Hid (∀ b w, _) := digit_any
  obtain ⟨L, eL⟩ : ∃ L, L = a :: r := ⟨_, rfl⟩
  have HN : Hid (L.length = r.length + 1 ∧ r.length % 2 = 0) := ⟨by rw [eL]; rfl, by simp at ho; omega⟩
  have HIX : Hid (∀ i : Nat, L[i + 1]? = r[i]?) := fun i => by rw [eL]; simp
  rw [← eL] at HP hp' hl q hix0 RR ⊢
  clear eL hp ho ha
  go_enter Tryd.func56, Tryd.ntmps56
  go_wp2_with fail
  refine Calls.mono (HP.out _) ?_
  rintro e w1 ⟨rfl, e1⟩
  subst e1
  rw [hp']
  go_wp2_with fail
  clear HP hix0 q q35 q35' hp'
  go_loopw [4, 5] (fun v i wr => ∃ (k : Nat) (acc : List UInt8), i = .int .i64 ((2 * k + 1 : Nat) : Int) ∧ 2 * k ≤ r.length ∧ acc.length = k ∧ OwnB w1.heap.size wr v (nu acc) ∧ unhx r = (unhx (r.drop (2 * k))).map (acc ++ ·) ∧ Kept w1 wr) (fun _ i _ => L.length - (intOf i).toNat)
  case atStart => exact ⟨0, [], rfl, Nat.zero_le _, rfl, OwnB.nil _ _, by simp, Same.refl _ _⟩
  case round =>
    obtain ⟨k, acc, rfl, hk, hac, how, hun, hkp⟩ := hrel
    have HOW : Hid _ := how
    have HUN : Hid _ := hun
    have HKP : Hid _ := hkp
    have HAC : Hid _ := hac
    have HK : Hid _ := hk
    clear how hun hkp hac hk
    rename World => W
    by_cases hkn : 2 * k + 1 < L.length
    · have c1 : decide (((2 * k + 1 : Nat) : Int) < (L.length : Int)) = true := decide_eq_true (by omega)
      have hkn2 : ((2 * k + 1 : Nat) : Int) < (L.length : Int) := by omega
      obtain ⟨a, ha⟩ : ∃ b, r[2 * k]? = some b := ⟨_, List.getElem?_eq_getElem (by have := HN.out; omega)⟩
      obtain ⟨b, hb⟩ : ∃ b, r[2 * k + 1]? = some b := ⟨_, List.getElem?_eq_getElem (by have := HN.out; omega)⟩
      have hix : ∀ w, (Instr.index 9 (tx L) (.int .i64 ((2 * k + 1 : Nat) : Int))).run Tryd.prog w = _ := idx_tx ((HIX.out _).trans ha)
      have hix1 : ∀ w, (Instr.index 9 (tx L) (.int .i64 (((2 * k + 1 : Nat) : Int) + 1))).run Tryd.prog w = _ := idx_tx ((HIX.out _).trans hb)
      have HDR : Hid (r.drop (2 * k) = a :: b :: r.drop (2 * (k + 1))) := drop_two ha hb
      clear ha hb
      have HK1 : Hid (2 * (k + 1) ≤ r.length ∧ k ≤ 140737488351232) := by have := HN.out; exact ⟨by omega, by omega⟩
      obtain ⟨kk, ekk⟩ : ∃ kk, kk = 2 * k + 1 := ⟨_, rfl⟩
      have HKF : Hid (((kk : Nat) : Int) + 2 = ((2 * (k + 1) + 1 : Nat) : Int)) := by show _ = _; omega
      rw [← ekk] at hkn c1 hkn2 hix hix1 ⊢
      have hw1 : wrap64 ((kk : Int) + 1) = (kk : Int) + 1 := by unfold wrap64; omega
      have hw2 : wrap64 ((kk : Int) + 2) = (kk : Int) + 2 := by unfold wrap64; omega
      clear ekk
      go_wp2_with fail
      refine Calls.mono (HD.out _ _) ?_
      rintro e w2 ⟨rfl, e2⟩
      subst e2
      go_wp2_with fail
      refine Calls.mono (HD.out _ _) ?_
      rintro e w2 ⟨rfl, e2⟩
      subst e2
      rcases hv_or a with ea | ⟨ea0, ea1, -⟩
      · have R : Hid (unhx r = none) := by show _ = _; rw [HUN.out, HDR.out]; unfold unhx; rw [if_pos (.inl (by omega))]; rfl
        have R2 : Hid _ := RR.out _ R.out
        rw [ea]
        go_wp2_with fail
        go_ret2
        rw [R2.out]
        exact ⟨rfl, HKP.out⟩
      · have ea2 : ¬ hv a < 0 := by omega
        rcases hv_or b with eb | ⟨eb0, eb1, -⟩
        · have R : Hid (unhx r = none) := by show _ = _; rw [HUN.out, HDR.out]; unfold unhx; rw [if_pos (.inr (by omega))]; rfl
          have R2 : Hid _ := RR.out _ R.out
          rw [eb]
          go_wp2_with fail
          go_ret2
          rw [R2.out]
          exact ⟨rfl, HKP.out⟩
        · obtain ⟨x, hx⟩ : ∃ x : Nat, hv a = (x : Int) := ⟨(hv a).toNat, by omega⟩
          obtain ⟨y, hy⟩ : ∃ y : Nat, hv b = (y : Int) := ⟨(hv b).toNat, by omega⟩
          have HB : Hid (unhx (r.drop (2 * k)) = (unhx (r.drop (2 * (k + 1)))).map (UInt8.ofNat (16 * x + y) :: ·)) := by
            show _ = _
            rw [HDR.out]
            conv => lhs; unfold unhx
            rw [if_neg (by omega), hx, hy]
            rfl
          have hx16 : x < 16 := by omega
          have hy16 : y < 16 := by omega
          rw [hx, hy]
          have hx0 : ¬ (x : Int) < 0 := by omega
          have hy0 : ¬ (y : Int) < 0 := by omega
          have dx0 : decide ((x : Int) < 0) = false := decide_eq_false hx0
          have dy0 : decide ((y : Int) < 0) = false := decide_eq_false hy0
          clear hx hy ea0 ea1 ea2 eb0 eb1
          have m1 : wrap64 (16 * (x : Int)) = 16 * (x : Int) := by unfold wrap64; omega
          have m2 : wrap64 (16 * (x : Int) + (y : Int)) = 16 * (x : Int) + (y : Int) := by unfold wrap64; omega
          have m3 : IntKind.u8.wrap (16 * (x : Int) + (y : Int)) = 16 * (x : Int) + (y : Int) := by simp [IntKind.wrap, IntKind.signed, IntKind.bits]; omega
          have HAP : Hid _ := app_one (16 * (x : Int) + (y : Int)) HOW.out (by rw [nu_len, HAC.out]; have := HK1.out.2; omega) HKP.out.size
          go_wp2_with (at_builtin; refine wpList_app rfl (.tmp 41) (.tmp 47) 39 39 rfl _ _ rfl rfl _ HAP.out ?_; rintro v5 w5 ⟨r5, s5⟩)
          refine ⟨⟨k + 1, acc ++ [UInt8.ofNat (16 * x + y)], by rw [HKF.out], HK1.out.1, by simp [HAC.out], ?_, ?_, ?_⟩, ?_⟩
          · rw [nu_app, nu_byte (by omega)]
            have h9 := r5
            rw [show 16 * (x : Int) + (y : Int) = ((16 * x + y : Nat) : Int) by omega] at h9
            exact h9
          · rw [HUN.out, HB.out, Option.map_map]
            congr 1
            funext z
            simp
          · exact Same.trans HKP.out s5 (fun i hi e => by omega)
          · simp only [intOf]
            omega
    · have c1 : decide (((2 * k + 1 : Nat) : Int) < (L.length : Int)) = false := decide_eq_false (by omega)
      have hkn2 : ¬ ((2 * k + 1 : Nat) : Int) < (L.length : Int) := by omega
      have hst := own_str HOW.out
      have R : Hid (unhx r = some acc) := by
        show _ = _
        rw [HUN.out, List.drop_of_length_le (by have := HN.out; omega)]
        simp [unhx]
      have R2 : Hid _ := RR.out _ R.out
      have HAL : Hid (acc.length ≤ 281474976710656) := by show _ ≤ _; have := HAC.out; have := HK.out; have := HN.out; omega
      generalize 2 * k + 1 = kk at hkn c1 hkn2 ⊢
      go_wp2_with fail
      refine Calls.mono (HPA.out _ _ HAL.out) ?_
      rintro e w2 ⟨rfl, e2⟩
      subst e2
      cases hs : pln acc
      · go_wp2_with fail
        go_ret2
        rw [R2.out]
        simp only [hs]
        exact ⟨rfl, HKP.out⟩
      · go_wp2_with fail
        go_ret2
        rw [R2.out]
        simp only [hs]
        exact ⟨rfl, HKP.out⟩
end Go.Proofs.YtlldgibpajbabaaDoor
