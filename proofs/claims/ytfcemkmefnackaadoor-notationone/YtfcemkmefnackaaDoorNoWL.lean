/- What is proved: the law NotationWords returns true and turns nothing that was there; conditions: the text has at most 1048576 bytes, and the library's table of powers lies as its text lays it. -/
import Derived.Test.YtfcemkmefnackaaDoorNoRi
import Derived.Test.YtfcemkmefnackaaDoorNoAn
namespace Go.Proofs.YtfcemkmefnackaaDoor
open Go.RowKit

theorem hv_hx {n : Nat} (h : n < 16) : hv (hx n) = (n : Int) := by
  obtain ⟨b, h1, h2⟩ := hv_dig ⟨n, h⟩
  have : hx n = b := by unfold hx; rw [List.getD_eq_getElem?_getD, h1]; rfl
  rw [this]
  exact h2
theorem hx_hv {b : UInt8} {n : Nat} (h : hv b = (n : Int)) : hx n = b ∧ n < 16 := by
  rcases hv_or b with e | ⟨h0, h1, h2⟩
  · omega
  · rw [h, Int.toNat_natCast] at h2
    exact ⟨by unfold hx; rw [List.getD_eq_getElem?_getD, h2]; rfl, by omega⟩
theorem byte_split (b : UInt8) : UInt8.ofNat (16 * (b.toNat / 16) + b.toNat % 16) = b := by
  rw [show 16 * (b.toNat / 16) + b.toNat % 16 = b.toNat by omega]
  simp
theorem unhx_hexs : ∀ l : List UInt8, unhx (hexs l) = some l
  | [] => rfl
  | b :: l => by
    have ih := unhx_hexs l
    have e : hexs (b :: l) = hx (b.toNat / 16) :: hx (b.toNat % 16) :: hexs l := rfl
    have h1 := b.toNat_lt
    have e1 := hv_hx (n := b.toNat / 16) (by omega)
    have e2 := hv_hx (n := b.toNat % 16) (by omega)
    rw [e]
    unfold unhx
    rw [e1, e2, ih, if_neg (by omega)]
    simp only [Int.toNat_natCast, Option.map_some]
    rw [byte_split]
theorem hexs_unhx : ∀ (r c : List UInt8), unhx r = some c → hexs c = r
  | [], c, h => by
    cases h
    rfl
  | [_], c, h => by simp [unhx] at h
  | a :: b :: r, c, h => by
    unfold unhx at h
    split at h
    · cases h
    · rename_i hn
      obtain ⟨c', hc', rfl⟩ := Option.map_eq_some_iff.1 h
      have ih := hexs_unhx r c' hc'
      have e1 : hv a = (((hv a).toNat : Nat) : Int) := by omega
      have e2 : hv b = (((hv b).toNat : Nat) : Int) := by omega
      obtain ⟨g1, k1⟩ := hx_hv e1
      obtain ⟨g2, k2⟩ := hx_hv e2
      generalize (hv a).toNat = x at *
      generalize (hv b).toNat = y at *
      have ez : (UInt8.ofNat (16 * x + y)).toNat = 16 * x + y := by simp; omega
      show hx ((UInt8.ofNat (16 * x + y)).toNat / 16) :: hx ((UInt8.ofNat (16 * x + y)).toNat % 16) :: hexs c' = _
      rw [ez, show (16 * x + y) / 16 = x by omega, show (16 * x + y) % 16 = y by omega, g1, g2, ih]
theorem uwd_wd (l : List UInt8) : uwd (wd l) = some l := by
  unfold wd
  by_cases h : pln l = true
  · rw [if_pos h]
    unfold uwd
    rw [if_pos h]
  · rw [if_neg h]
    unfold uwd
    have : ¬ pln (35 :: hexs l) = true := by unfold pln; simp [sm, smI]
    rw [if_neg this]
    dsimp only
    rw [if_pos rfl, unhx_hexs]
    dsimp only
    rw [if_neg h]
theorem wd_uwd {l c : List UInt8} (h : uwd l = some c) : wd c = l := by
  unfold uwd at h
  split at h
  · rename_i hp
    cases h
    unfold wd
    rw [if_pos hp]
  · cases l with
    | nil => cases h
    | cons a r =>
      dsimp only at h
      split at h
      · rename_i ha
        cases hu : unhx r with
        | none => rw [hu] at h; cases h
        | some s =>
          rw [hu] at h
          dsimp only at h
          split at h
          · cases h
          · rename_i hs
            cases h
            unfold wd
            rw [if_neg hs, hexs_unhx r _ hu, ha]
      · cases h
theorem uwd_len {l c : List UInt8} (h : uwd l = some c) : c.length ≤ l.length := by
  have := wd_uwd h
  rw [← this]
  unfold wd
  split
  · exact Nat.le_refl _
  · rw [List.length_cons, hexs_len]; omega

set_option maxRecDepth 100000 in
set_option maxHeartbeats 3200000 in
theorem words_law (l : List UInt8) (w : World) (hl : l.length ≤ 1048576) (ht : Tab w.heap.size w) : Calls Tryd.prog 3 #[tx l] w fun e w' => e = .returned (.bool true) ∧ Kept w w' := by
  have HA : Hid _ := anchor_any21 w ht
  have HW : Hid (∀ (l : List UInt8) w, l.length ≤ 70368744177000 → _) := fun l w h => word_any l w h
  have HU : Hid (∀ (l : List UInt8) w, l.length ≤ 140737488355328 → _) := fun l w h => unword_any l w h
  have HN : Hid (∀ w, _) := fun w => number_any21 l w (by omega)
  have GW : Hid (∀ w, _) := fun w => rword_any l w (by omega)
  have GU : Hid (∀ w, _) := fun w => runword_any l w (by omega)
  have GN : Hid (∀ w, _) := fun w => rnumber_any21 l w
  have EW : Hid (uwd (wd l) = some l) := uwd_wd l
  have HWL : Hid ((wd l).length ≤ 2097153) := by have := wd_len l; show _ ≤ _; omega
  have heq : ∀ l : List UInt8, ((⟨l.toArray⟩ : ByteArray).toList == (⟨l.toArray⟩ : ByteArray).toList) = true := fun l => by simp
  clear ht
  go_enter Tryd.func3, Tryd.ntmps3
  go_wp2_with fail
  refine Calls.mono HA.out ?_
  rintro e w1 ⟨rfl, k1⟩
  have K1 : Hid (Kept w w1) := k1
  clear k1 HA
  go_wp2_with fail
  refine Calls.mono (HW.out l _ (by omega)) ?_
  rintro e w2 ⟨rfl, k2⟩
  have K2 : Hid (Kept w w2) := K1.out.trans' k2
  clear k2 K1
  go_wp2_with fail
  refine Calls.mono (HU.out (wd l) _ (by have := HWL.out; omega)) ?_
  rintro e w3 ⟨rfl, k3⟩
  have K3 : Hid (Kept w w3) := K2.out.trans' k3
  rw [EW.out]
  clear k3 K2
  simp only [uwV]
  go_wp2_with fail
  refine Calls.mono (GW.out _) ?_
  rintro e w4 ⟨v4, rfl, b4, c4, rfl, y4, -, k4⟩
  have K4 : Hid (Kept w w4) := K3.out.trans' k4
  have hst : (convert 27 9 (.slice (some ⟨b4, 0, none⟩) (wd l).length c4)).run Tryd.prog w4 = .ok (tx (wd l)) w4 := by
    have := convert_bytes (c := c4) y4
    rw [nu_len, str_nu] at this
    exact this
  clear k4 y4 K3
  go_wp2_with fail
  refine Calls.mono (HU.out l _ (by omega)) ?_
  rintro e w5 ⟨rfl, k5⟩
  have K5 : Hid (Kept w w5) := K4.out.trans' k5
  clear k5 K4 hst
  cases hu : uwd l with
  | none =>
    simp only [uwV]
    go_wp2_with fail
    refine Calls.mono (GU.out _) ?_
    rintro e w6 ⟨rfl, k6⟩
    have K6 : Hid (Kept w w6) := K5.out.trans' k6
    clear k6 K5
    rw [hu]
    simp only [ruV]
    clear hu
    go_wp2_with fail
    refine Calls.mono (HN.out _) ?_
    rintro e w8 ⟨rfl, e8⟩
    subst e8
    cases hn : numb l with
    | none =>
      simp only [numV]
      go_wp2_with fail
      refine Calls.mono (GN.out _) ?_
      rintro e w9 ⟨rfl, e9⟩
      subst e9
      rw [hn]
      simp only [rnV]
      go_wp2_with fail
      go_ret
      exact ⟨rfl, K6.out⟩
    | some n =>
      simp only [numV]
      go_wp2_with fail
      refine Calls.mono (GN.out _) ?_
      rintro e w9 ⟨rfl, e9⟩
      subst e9
      rw [hn]
      simp only [rnV]
      go_wp2_with fail
      go_ret
      exact ⟨rfl, K6.out⟩
  | some c =>
    have EC : Hid (wd c = l ∧ c.length ≤ l.length) := ⟨wd_uwd hu, uwd_len hu⟩
    simp only [uwV]
    go_wp2_with fail
    refine Calls.mono (GU.out _) ?_
    rintro e w6 ⟨rfl, k6⟩
    have K6 : Hid (Kept w w6) := K5.out.trans' k6
    clear k6 K5
    rw [hu]
    simp only [ruV]
    clear hu
    go_wp2_with fail
    refine Calls.mono (HW.out c _ (by have := EC.out.2; omega)) ?_
    rintro e w7 ⟨rfl, k7⟩
    have K7 : Hid (Kept w w7) := K6.out.trans' k7
    rw [EC.out.1]
    clear k7 K6
    go_wp2_with fail
    refine Calls.mono (HN.out _) ?_
    rintro e w8 ⟨rfl, e8⟩
    subst e8
    cases hn : numb l with
    | none =>
      simp only [numV]
      go_wp2_with fail
      refine Calls.mono (GN.out _) ?_
      rintro e w9 ⟨rfl, e9⟩
      subst e9
      rw [hn]
      simp only [rnV]
      go_wp2_with fail
      go_ret
      exact ⟨rfl, K7.out⟩
    | some n =>
      simp only [numV]
      go_wp2_with fail
      refine Calls.mono (GN.out _) ?_
      rintro e w9 ⟨rfl, e9⟩
      subst e9
      rw [hn]
      simp only [rnV]
      go_wp2_with fail
      go_ret
      exact ⟨rfl, K7.out⟩
end Go.Proofs.YtfcemkmefnackaaDoor
