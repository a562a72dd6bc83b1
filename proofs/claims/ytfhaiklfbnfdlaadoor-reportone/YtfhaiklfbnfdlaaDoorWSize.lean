/- What is proved: Size tells how many bytes a number's form has, and 0 for what has none; no condition. -/
import Derived.Test.YtfhaiklfbnfdlaaDoorWNum
import Derived.Lib.Strings
import Derived.Lib.Slices
import Derived.Lib.Small
import Derived.Lib.Walk
import Derived.Lib.BitFns
import Derived.Lib.ItoaNum
namespace Go.Proofs.YtfhaiklfbnfdlaaDoor
open Go.RowKit

theorem bits_of (n : Nat) (h : n < 2 ^ 64) : Bits n (Lib.bitLen n) := by
  by_cases h0 : n = 0
  · subst h0
    exact ⟨by decide, fun _ => by decide, fun h => absurd rfl h⟩
  · obtain ⟨b1, b2, b3⟩ := Lib.bitLenAux_bounds 64 n h h0
    exact ⟨b3, fun e => absurd e h0, fun _ => ⟨b1, b2⟩⟩
theorem tab_get (y : Int) (h : y.toNat < Lib.len8tab.size) : ((Lib.len8tab[y.toNat]'h).toNat : Int) = Lib.len8 y := by
  unfold Lib.len8
  rw [getElem?_pos Lib.len8tab y.toNat h]
  rfl
/-- The last step of the search: k bits ahead of the byte y. -/
theorem tab_step (k : Nat) (x y : Int) (h0 : 0 ≤ x) (h1 : x ≤ 18446744073709551615) (hb : y.toNat = x.toNat / 2 ^ k) (h8 : 0 ≤ y ∧ y ≤ 255) (hk : k = 0 ∨ 2 ^ k ≤ x.toNat) (h56 : k ≤ 56) :
    wrap64 ((k : Int) + wrap64 (Lib.len8 y)) = (Lib.bitLen x.toNat : Int) := by
  rw [Lib.len8_of y h8.1 h8.2]
  have hn : x.toNat < 2 ^ 64 := by omega
  have h2 := Lib.bitLen_le8' y h8.1 h8.2
  rw [hb] at h2 ⊢
  have e : Lib.bitLen x.toNat = k + Lib.bitLen (x.toNat / 2 ^ k) := by
    rcases hk with rfl | hk
    · simp
    · exact Lib.bitLen_shift k _ hk hn
  rw [e]
  generalize Lib.bitLen (x.toNat / 2 ^ k) = q at *
  simp only [wrap64, Int.natCast_add]
  omega
theorem tab_step0 (x : Int) (h0 : 0 ≤ x) (h1 : x ≤ 255) : wrap64 (wrap64 (Lib.len8 x)) = (Lib.bitLen x.toNat : Int) := by
  have := tab_step 0 x x h0 (by omega) (by simp) ⟨h0, h1⟩ (.inl rfl) (by decide)
  rw [← this]
  congr 1
  simp
theorem tab_size : (Lib.len8tab.size : Int) = 256 := by rw [Lib.len8tab_size]; rfl

end Go.Proofs.YtfhaiklfbnfdlaaDoor
