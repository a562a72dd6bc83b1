/- What is proved: the anchor answers true; the document's Check, Usual, names; condition: the library's table of powers lies as its text lays it. -/
import Derived.Test.YtolooejcgdknnaaDoorCfP
namespace Go.Proofs.YtolooejcgdknnaaDoor
open Go.RowKit

def uText : List UInt8 := [98, 117, 100, 103, 101, 116, 61, 52, 48, 57, 54, 32, 102, 97, 110, 61, 56, 32, 115, 116, 97, 116, 101, 61, 49, 48, 52, 56, 53, 55, 54, 32, 101, 112, 115, 61, 48, 32, 108, 105, 109, 105, 116, 61, 49, 48, 48]
theorem itoa_of (n : Nat) : Lib.itoa (n : Int) = Lib.decDigits n := by
  unfold Lib.itoa
  rw [if_neg (by omega), Int.toNat_natCast]
theorem dd_one {n : Nat} (h : n < 10) : Lib.decDigits n = [UInt8.ofNat (48 + n)] := by rw [Lib.decDigits, dif_pos h]
theorem dd_more {n : Nat} (h : ¬ n < 10) : Lib.decDigits n = Lib.decDigits (n / 10) ++ [UInt8.ofNat (48 + n % 10)] := by rw [Lib.decDigits, dif_neg h]
theorem it_4096 : Lib.itoa 4096 = [52, 48, 57, 54] := by
  rw [show (4096 : Int) = ((4096 : Nat) : Int) from rfl, itoa_of, dd_more (by decide), dd_more (by decide), dd_more (by decide), dd_one (by decide)]
  decide
theorem it_8 : Lib.itoa 8 = [56] := by
  rw [show (8 : Int) = ((8 : Nat) : Int) from rfl, itoa_of, dd_one (by decide)]
  decide
theorem it_1048576 : Lib.itoa 1048576 = [49, 48, 52, 56, 53, 55, 54] := by
  rw [show (1048576 : Int) = ((1048576 : Nat) : Int) from rfl, itoa_of, dd_more (by decide), dd_more (by decide), dd_more (by decide), dd_more (by decide), dd_more (by decide), dd_more (by decide), dd_one (by decide)]
  decide
theorem it_0 : Lib.itoa 0 = [48] := by
  rw [show (0 : Int) = ((0 : Nat) : Int) from rfl, itoa_of, dd_one (by decide)]
  decide
theorem it_100 : Lib.itoa 100 = [49, 48, 48] := by
  rw [show (100 : Int) = ((100 : Nat) : Int) from rfl, itoa_of, dd_more (by decide), dd_more (by decide), dd_one (by decide)]
  decide
theorem print_us : printC ⟨4096, 8, 1048576, 0, 100⟩ = (uText, 0) := by
  unfold printC
  rw [if_neg (by decide)]
  simp only [pr, pc, fl, it_4096, it_8, it_1048576, it_0, it_100]
  decide
set_option maxRecDepth 100000 in
theorem anchor_any23 (w : World) (ht : Tab w.heap.size w) : Calls Tryd.prog 8 #[] w fun e w' => e = .returned (.bool true) ∧ Kept w w' := by
  have HU : Hid (∀ w, _) := cusual_any
  have HP : Hid (∀ w, Tab w.heap.size w → _) := fun w h => print_cf ⟨4096, 8, 1048576, 0, 100⟩ w h
  rw [print_us] at HP
  have HT : Hid (∀ W, Kept w W → Tab W.heap.size W) := fun W k w' hb => ht w' ⟨hb.os.trans k.os, hb.tape.trans k.tape, hb.output.trans k.output, Nat.le_trans k.size hb.size, fun j hj => (hb.block j (Nat.lt_of_lt_of_le hj k.size)).trans (k.block j hj (fun e => e))⟩
  clear ht
  have q : (uText == [98, 117, 100, 103, 101, 116, 61, 52, 48, 57, 54, 32, 102, 97, 110, 61, 56, 32, 115, 116, 97, 116, 101, 61, 49, 48, 52, 56, 53, 55, 54, 32, 101, 112, 115, 61, 48, 32, 108, 105, 109, 105, 116, 61, 49, 48, 48]) = true := rfl
  generalize uText = U at *
  go_enter Tryd.func8, Tryd.ntmps8
  go_wp2_with fail
  refine Calls.mono (HU.out _) ?_
  rintro e w1 ⟨rfl, k1⟩
  have K1 : Hid (Kept w w1) := k1
  clear k1
  go_wp2_with fail
  refine Calls.mono (HP.out _ (HT.out _ K1.out)) ?_
  rintro e w2 ⟨rfl, k2⟩
  have K2 : Hid (Kept w w2) := K1.out.trans' k2
  clear k2
  go_wp2_with fail
  go_ret
  exact ⟨rfl, K2.out⟩
theorem rusual_any (w : World) : Calls Tryd.prog 15 #[] w fun r w' => r = .returned (.agg #[.int .i64 4096, .int .i64 8, .int .i64 1048576, .int .i64 0, .int .i64 100]) ∧ Kept w w' := by
  go_enter Tryd.func15, Tryd.ntmps15
  go_wp2_with fail
  refine bodyPost_ret (results_cN rfl rfl (v := .agg #[.int .i64 4096, .int .i64 8, .int .i64 1048576, .int .i64 0, .int .i64 100]) ?_) rfl ⟨rfl, (Same.refl _ _).alloc _⟩
  go_simp
theorem names_any (w : World) : Calls Tryd.prog 20 #[] w fun r w' => r = .returned (.agg #[.string ⟨#[98, 117, 100, 103, 101, 116]⟩, .string ⟨#[102, 97, 110]⟩, .string ⟨#[115, 116, 97, 116, 101]⟩, .string ⟨#[101, 112, 115]⟩, .string ⟨#[108, 105, 109, 105, 116]⟩]) ∧ Kept w w' := by
  go_enter Tryd.func20, Tryd.ntmps20
  go_wp2_with fail
  refine bodyPost_ret (results_cN rfl rfl (v := .agg #[.string ⟨#[98, 117, 100, 103, 101, 116]⟩, .string ⟨#[102, 97, 110]⟩, .string ⟨#[115, 116, 97, 116, 101]⟩, .string ⟨#[101, 112, 115]⟩, .string ⟨#[108, 105, 109, 105, 116]⟩]) ?_) rfl ⟨rfl, (Same.refl _ _).alloc _⟩
  go_simp
set_option maxRecDepth 100000 in
set_option maxHeartbeats 1600000 in
theorem rcheck_any23 (x : Cg) (w : World) : Calls Tryd.prog 9 #[.agg #[.int .i64 x.a, .int .i64 x.b, .int .i64 x.c, .int .i64 x.d, .int .i64 x.e]] w fun r w' => r = .returned (.int .i64 (chk x)) ∧ Kept w w' := by
  obtain ⟨a, b, c, d, e⟩ := x
  obtain ⟨Z, eZ⟩ : ∃ Z, Z = chk ⟨a, b, c, d, e⟩ := ⟨_, rfl⟩
  have HZ : Hid (Z = chk ⟨a, b, c, d, e⟩) := eZ
  show Calls _ _ #[.agg #[.int .i64 a, .int .i64 b, .int .i64 c, .int .i64 d, .int .i64 e]] _ _
  rw [← eZ]
  clear eZ
  go_enter Tryd.func9, Tryd.ntmps9
  go_wp2_with fail
  all_goals
    go_ret
    refine ⟨?_, (Same.refl _ _).alloc _⟩
    rw [HZ.out]
    refine congrArg Ending.returned (congrArg (Value.int IntKind.i64) ?_)
    unfold chk
    dsimp only
    repeat' split
    all_goals first | rfl | omega
end Go.Proofs.YtolooejcgdknnaaDoor
