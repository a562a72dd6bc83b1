/- What is proved: the law NotationWords returns true and turns nothing that was there; conditions: the text has at most 1048576 bytes, and the library's table of powers lies as its text lays it. -/
import Derived.Test.YtlldgibpajbabaaDoorNoRi
import Derived.Test.YtlldgibpajbabaaDoorNoAn
namespace Go.Proofs.YtlldgibpajbabaaDoor
open Go.RowKit

theorem hv_hx {n : Nat} (h : n < 16) : hv (hx n) = (n : Int) := by
  obtain ⟨b, h1, h2⟩ := hv_dig ⟨n, h⟩
  have : hx n = b := by unfold hx; rw [List.getD_eq_getElem?_getD, h1]; rfl
  rw [this]
  exact h2
theorem hx_hv {b : UInt8} {n : Nat} (h : hv b = (n : Int)) : hx n = b ∧ n < 16 := by
  rcases hv_or b with e | ⟨h0, h1, h2⟩
  · omega
  · rw [h, Int.toNat_natCast] at h2
    exact ⟨by unfold hx; rw [List.getD_eq_getElem?_getD, h2]; rfl, by omega⟩
theorem byte_split (b : UInt8) : UInt8.ofNat (16 * (b.toNat / 16) + b.toNat % 16) = b := by
  rw [show 16 * (b.toNat / 16) + b.toNat % 16 = b.toNat by omega]
  simp
theorem unhx_hexs : ∀ l : List UInt8, unhx (hexs l) = some l
  | [] => rfl
  | b :: l => by
    have ih := unhx_hexs l
    have e : hexs (b :: l) = hx (b.toNat / 16) :: hx (b.toNat % 16) :: hexs l := rfl
    have h1 := b.toNat_lt
    have e1 := hv_hx (n := b.toNat / 16) (by omega)
    have e2 := hv_hx (n := b.toNat % 16) (by omega)
    rw [e]
    unfold unhx
    rw [e1, e2, ih, if_neg (by omega)]
    simp only [Int.toNat_natCast, Option.map_some]
    rw [byte_split]
theorem hexs_unhx : ∀ (r c : List UInt8), unhx r = some c → hexs c = r
  | [], c, h => by
    cases h
    rfl
  | [_], c, h => by simp [unhx] at h
  | a :: b :: r, c, h => by
    unfold unhx at h
    split at h
    · cases h
    · rename_i hn
      obtain ⟨c', hc', rfl⟩ := Option.map_eq_some_iff.1 h
      have ih := hexs_unhx r c' hc'
      have e1 : hv a = (((hv a).toNat : Nat) : Int) := by omega
      have e2 : hv b = (((hv b).toNat : Nat) : Int) := by omega
      obtain ⟨g1, k1⟩ := hx_hv e1
      obtain ⟨g2, k2⟩ := hx_hv e2
      generalize (hv a).toNat = x at *
      generalize (hv b).toNat = y at *
      have ez : (UInt8.ofNat (16 * x + y)).toNat = 16 * x + y := by simp; omega
      show hx ((UInt8.ofNat (16 * x + y)).toNat / 16) :: hx ((UInt8.ofNat (16 * x + y)).toNat % 16) :: hexs c' = _
      rw [ez, show (16 * x + y) / 16 = x by omega, show (16 * x + y) % 16 = y by omega, g1, g2, ih]
theorem uwd_wd (l : List UInt8) : uwd (wd l) = some l := by
  unfold wd
  by_cases h : pln l = true
  · rw [if_pos h]
    unfold uwd
    rw [if_pos h]
  · rw [if_neg h]
    unfold uwd
    have : ¬ pln (35 :: hexs l) = true := by unfold pln; simp [sm, smI]
    rw [if_neg this]
    dsimp only
    rw [if_pos rfl, unhx_hexs]
    dsimp only
    rw [if_neg h]
theorem wd_uwd {l c : List UInt8} (h : uwd l = some c) : wd c = l := by
  unfold uwd at h
  split at h
  · rename_i hp
    cases h
    unfold wd
    rw [if_pos hp]
  · cases l with
    | nil => cases h
    | cons a r =>
      dsimp only at h
      split at h
      · rename_i ha
        cases hu : unhx r with
        | none => rw [hu] at h; cases h
        | some s =>
          rw [hu] at h
          dsimp only at h
          split at h
          · cases h
          · rename_i hs
            cases h
            unfold wd
            rw [if_neg hs, hexs_unhx r _ hu, ha]
      · cases h
theorem uwd_len {l c : List UInt8} (h : uwd l = some c) : c.length ≤ l.length := by
  have := wd_uwd h
  rw [← this]
  unfold wd
  split
  · exact Nat.le_refl _
  · rw [List.length_cons, hexs_len]; omega

end Go.Proofs.YtlldgibpajbabaaDoor
