/- What is proved: the anchor answers true; condition: the library's table of powers lies as its text lays it. -/
import Derived.Test.YtlldgibpajbabaaDoorNoPr
namespace Go.Proofs.YtlldgibpajbabaaDoor
open Go.RowKit

theorem Tab.up {B : Nat} {w W : World} (h : Tab B w) (hB : B ≤ w.heap.size) (k : Kept w W) : Tab W.heap.size W := fun w' hb => h w' ⟨hb.os.trans k.os, hb.tape.trans k.tape, hb.output.trans k.output, Nat.le_trans k.size hb.size, fun j hj => (hb.block j (Nat.lt_of_lt_of_le (Nat.lt_of_lt_of_le hj hB) k.size)).trans (k.block j (by omega) (fun e => e))⟩
def oA : OpM := ⟨2, ⟨#[97]⟩, true, ⟨#[120]⟩⟩
def tA : TxM := ⟨1, 0, 5, 9, 5, 9, 1, [oA]⟩
def lnA : List UInt8 := [115, 49, 32, 113, 48, 32, 116, 53, 45, 57, 32, 99, 53, 45, 57, 32, 99, 111, 109, 109, 105, 116, 32, 119, 40, 97, 41, 61, 120]
theorem right_A : Right tA := ⟨by decide, by decide, fun o ho => by
  simp only [tA, List.mem_cons, List.not_mem_nil, or_false] at ho
  subst ho
  exact ⟨by decide, .inr (.inl ⟨rfl, rfl⟩)⟩⟩
theorem itoa_small {n : Nat} (h : n < 10) : Lib.itoa (n : Int) = [UInt8.ofNat (48 + n)] := by
  unfold Lib.itoa
  rw [if_neg (by omega), Int.toNat_natCast, Lib.decDigits, dif_pos h]
theorem line_A : line tA = lnA := by
  have e0 := itoa_small (n := 0) (by decide)
  have e1 := itoa_small (n := 1) (by decide)
  have e5 := itoa_small (n := 5) (by decide)
  have e9 := itoa_small (n := 9) (by decide)
  unfold line headL numL tA
  dsimp only
  rw [show ((1 : Int)) = ((1 : Nat) : Int) from rfl, show ((0 : Int)) = ((0 : Nat) : Int) from rfl, show ((5 : Int)) = ((5 : Nat) : Int) from rfl, show ((9 : Int)) = ((9 : Nat) : Int) from rfl, e0, e1, e5, e9]
  rfl
theorem print_A : printT tA = (lnA, 0) := by
  unfold printT
  rw [if_neg (by rw [valid_zero.2 right_A]; simp), line_A]
theorem read_A : readT lnA = (tA, true) := by kernel_rfl
theorem parse_A : parseT lnA = (tA, 0) := by
  unfold parseT
  rw [read_A]
  simp [valid_zero.2 right_A]

set_option maxRecDepth 100000 in
set_option maxHeartbeats 3200000 in
theorem anchor_any21 (w : World) (ht : Tab w.heap.size w) : Calls Tryd.prog 6 #[] w fun e w' => e = .returned (.bool true) ∧ Kept w w' := by
  obtain ⟨W0, e0⟩ : ∃ W0, W0 = (w.alloc (.cells #[.int .i64 2, .string ⟨#[97]⟩, .bool true, .string ⟨#[120]⟩] 49 (0, 0))).alloc (.cells #[.int .i64 1, .int .i64 0, .int .i64 5, .int .i64 9, .int .i64 5, .int .i64 9, .int .i64 1, .slice (some ⟨w.heap.size, 0, none⟩) 1 1] 25 (0, 0)) := ⟨_, rfl⟩
  have K0 : Hid (Kept w W0) := by rw [e0]; exact ((Same.refl _ w).alloc _).alloc _
  have B0 : Hid (W0.heap[w.heap.size + 1]? = some (.cells #[.int .i64 1, .int .i64 0, .int .i64 5, .int .i64 9, .int .i64 5, .int .i64 9, .int .i64 1, .slice (some ⟨w.heap.size, 0, none⟩) 1 1] 25 (0, 0))) := by
    have := heap_new (w.alloc (.cells #[.int .i64 2, .string ⟨#[97]⟩, .bool true, .string ⟨#[120]⟩] 49 (0, 0))) (.cells #[.int .i64 1, .int .i64 0, .int .i64 5, .int .i64 9, .int .i64 5, .int .i64 9, .int .i64 1, .slice (some ⟨w.heap.size, 0, none⟩) 1 1] 25 (0, 0))
    rw [World.size_alloc, ← e0] at this
    exact this
  have X0 : Hid (∀ W, Kept W0 W → TxA W tA (.agg #[.int .i64 1, .int .i64 0, .int .i64 5, .int .i64 9, .int .i64 5, .int .i64 9, .int .i64 1, .slice (some ⟨w.heap.size, 0, none⟩) 1 1])) := fun W k => ⟨_, _, rfl, OpsAt.on (OpsAt.on (ops_new w oA) (by rw [e0]; exact (Same.refl _ _).alloc _)) k⟩
  have HP : Hid (∀ W, Kept W0 W → Calls Tryd.prog 17 #[.agg #[.int .i64 1, .int .i64 0, .int .i64 5, .int .i64 9, .int .i64 5, .int .i64 9, .int .i64 1, .slice (some ⟨w.heap.size, 0, none⟩) 1 1]] W fun e w' => e = .returned (.tuple #[tx lnA, .int .i64 0]) ∧ Kept W w') := fun W k => by
    have := print_any W tA _ (X0.out W k) (ht.up (Nat.le_refl _) (K0.out.trans' k))
    rw [print_A] at this
    exact this
  have HR : Hid (∀ W, Calls Tryd.prog 7 #[tx lnA] W fun e w' => ∃ a c, e = .returned (.tuple #[txV tA (.slice a 1 c), .int .i64 0]) ∧ OwnO W.heap.size w' (.slice a 1 c) [oA] ∧ Kept W w') := fun W => by
    have := parse_any lnA W (by decide)
    rw [parse_A] at this
    exact this
  have HS : Hid (∀ W va vb, TxA W tA va → TxA W tA vb → _) := fun W va vb h1 h2 => sameT W tA va vb h1 h2 (by decide)
  have hln : ((⟨lnA.toArray⟩ : ByteArray).toList == ByteArray.toList ⟨lnA.toArray⟩) = true := by simp
  clear ht
  go_enter Tryd.func6, Tryd.ntmps6
  go_upto_region 2 with fail
  rw [← e0]
  clear e0
  obtain ⟨⟨d0, d1, d2, d3, d4, d5, d6, d7⟩, -⟩ := tx_obj B0.out
  have ld := lt_of_heap B0.out
  go_wp2_with fail
  refine Calls.mono (HP.out _ (Same.refl _ _)) ?_
  rintro e w1 ⟨rfl, k1⟩
  have K1 : Hid (Kept W0 w1) := k1
  clear k1 HP d0 d1 d2 d3 d4 d5 d6 d7 ld
  go_wp2_with fail
  refine Calls.mono (HR.out _) ?_
  rintro e w2 ⟨a, c, rfl, o2, k2⟩
  have K2 : Hid (Kept W0 w2) := K1.out.trans' k2
  have U2 : Hid (∀ W, Kept w2 W → TxA W tA (txV tA (.slice a 1 c))) := fun W k => (OwnO.txa (t := tA) o2).on k
  clear o2 k2 HR K1
  simp only [txV, tA] at U2 ⊢
  obtain ⟨W3, e3⟩ : ∃ W3, W3 = w2.alloc (.cells #[.int .i64 1, .int .i64 0, .int .i64 5, .int .i64 9, .int .i64 5, .int .i64 9, .int .i64 1, .slice a 1 c] 25 (0, 0)) := ⟨_, rfl⟩
  have B3 : Hid (W3.heap[w2.heap.size]? = some (.cells #[.int .i64 1, .int .i64 0, .int .i64 5, .int .i64 9, .int .i64 5, .int .i64 9, .int .i64 1, .slice a 1 c] 25 (0, 0))) := by rw [e3]; exact heap_new w2 _
  have K3 : Hid (Kept W0 W3 ∧ Kept w2 W3) := by rw [e3]; exact ⟨K2.out.alloc _, (Same.refl _ w2).alloc _⟩
  have C3 : Hid _ := (K3.out.1.block _ (lt_of_heap B0.out) (fun e => e)).trans B0.out
  go_upto_region 4 with fail
  rw [← e3]
  clear e3
  obtain ⟨⟨d0, d1, d2, d3, d4, d5, d6, d7⟩, -⟩ := tx_obj B3.out
  obtain ⟨⟨x0, x1, x2, x3, x4, x5, x6, x7⟩, -⟩ := tx_obj C3.out
  have ld := lt_of_heap B3.out
  have lx := lt_of_heap C3.out
  go_wp2_with fail
  refine Calls.mono (HS.out _ _ _ (X0.out _ K3.out.1) (U2.out _ K3.out.2)) ?_
  rintro e w4 ⟨rfl, k4⟩
  have K4 : Hid (Kept w w4) := (K0.out.trans' K3.out.1).trans' k4
  clear k4
  go_wp2_with fail
  go_ret
  exact ⟨rfl, K4.out⟩
end Go.Proofs.YtlldgibpajbabaaDoor
