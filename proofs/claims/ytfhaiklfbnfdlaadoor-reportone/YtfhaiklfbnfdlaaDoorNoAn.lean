/- What is proved: the anchor answers true; condition: the library's table of powers lies as its text lays it. -/
import Derived.Test.YtfhaiklfbnfdlaaDoorNoPr
namespace Go.Proofs.YtfhaiklfbnfdlaaDoor
open Go.RowKit

theorem Tab.up {B : Nat} {w W : World} (h : Tab B w) (hB : B ≤ w.heap.size) (k : Kept w W) : Tab W.heap.size W := fun w' hb => h w' ⟨hb.os.trans k.os, hb.tape.trans k.tape, hb.output.trans k.output, Nat.le_trans k.size hb.size, fun j hj => (hb.block j (Nat.lt_of_lt_of_le (Nat.lt_of_lt_of_le hj hB) k.size)).trans (k.block j (by omega) (fun e => e))⟩
def oA : OpM := ⟨2, ⟨#[97]⟩, true, ⟨#[120]⟩⟩
def tA : TxM := ⟨1, 0, 5, 9, 5, 9, 1, [oA]⟩
def lnA : List UInt8 := [115, 49, 32, 113, 48, 32, 116, 53, 45, 57, 32, 99, 53, 45, 57, 32, 99, 111, 109, 109, 105, 116, 32, 119, 40, 97, 41, 61, 120]
theorem right_A : Right tA := ⟨by decide, by decide, fun o ho => by
  simp only [tA, List.mem_cons, List.not_mem_nil, or_false] at ho
  subst ho
  exact ⟨by decide, .inr (.inl ⟨rfl, rfl⟩)⟩⟩
theorem itoa_small {n : Nat} (h : n < 10) : Lib.itoa (n : Int) = [UInt8.ofNat (48 + n)] := by
  unfold Lib.itoa
  rw [if_neg (by omega), Int.toNat_natCast, Lib.decDigits, dif_pos h]
theorem line_A : line tA = lnA := by
  have e0 := itoa_small (n := 0) (by decide)
  have e1 := itoa_small (n := 1) (by decide)
  have e5 := itoa_small (n := 5) (by decide)
  have e9 := itoa_small (n := 9) (by decide)
  unfold line headL numL tA
  dsimp only
  rw [show ((1 : Int)) = ((1 : Nat) : Int) from rfl, show ((0 : Int)) = ((0 : Nat) : Int) from rfl, show ((5 : Int)) = ((5 : Nat) : Int) from rfl, show ((9 : Int)) = ((9 : Nat) : Int) from rfl, e0, e1, e5, e9]
  rfl
theorem print_A : printT tA = (lnA, 0) := by
  unfold printT
  rw [if_neg (by rw [valid_zero.2 right_A]; simp), line_A]
theorem read_A : readT lnA = (tA, true) := by kernel_rfl
theorem parse_A : parseT lnA = (tA, 0) := by
  unfold parseT
  rw [read_A]
  simp [valid_zero.2 right_A]

end Go.Proofs.YtfhaiklfbnfdlaaDoor
