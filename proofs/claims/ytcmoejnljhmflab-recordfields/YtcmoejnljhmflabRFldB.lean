/- What is proved: RecordFields answers true for every bound that is met. -/
import Derived.Test.YtcmoejnljhmflabRFldA
import Derived.Deep.DeepCutAuto
import Derived.Deep.CutBlock
import Derived.Deep.RegionHeld3
namespace Go.Proofs.Ytcmoejnljhmflab
open Go.RowKit

set_option maxRecDepth 100000 in
set_option maxHeartbeats 1600000 in
theorem fields_at (w : World) (which : Int) (h0 : 0 ≤ which) (h1 : which ≤ 10) :
    Calls Try.prog 3 #[.int .i64 which, .bool false] w fun e w' => e = .returned (.bool true) ∧ Kept w w' := by
  have hnot : ∀ (x : Bool) (w : World), (Op.unary .not (.bool x)).run Try.prog w = .ok (.bool (!x)) w := fun _ _ => rfl
  have HA : Hid (∀ W, _) := fun W => anchor_any W
  have d0 : decide (which < 0) = false := decide_eq_false (by omega)
  have d1 : decide (10 < which) = false := decide_eq_false (by omega)
  have d0' : ¬ which < 0 := by omega
  have d1' : ¬ 10 < which := by omega
  have HW : Hid (which = 0 ∨ which = 1 ∨ which = 2 ∨ which = 3 ∨ which = 4 ∨ which = 5 ∨ which = 6 ∨ which = 7 ∨ which = 8 ∨ which = 9 ∨ which = 10) := by
    show which = 0 ∨ which = 1 ∨ which = 2 ∨ which = 3 ∨ which = 4 ∨ which = 5 ∨ which = 6 ∨ which = 7 ∨ which = 8 ∨ which = 9 ∨ which = 10
    omega
  clear h0 h1
  go_enter Try.func3, Try.ntmps3
  go_wp2_with fail
  refine Calls.mono (HA.out _) ?_
  rintro e w1 ⟨rfl, k1⟩
  have BG : Hid (Begun w ((w1.alloc (.cells #[.int .i64 1, .string ⟨#[107]⟩, .bool true, .string ⟨#[118]⟩] 24 (0, 0))).alloc (.cells #[.int .i64 1, .int .i64 1, .int .i64 1, .int .i64 1, .int .i64 1, .int .i64 1, .int .i64 1, .slice (some ⟨w1.heap.size, 0, none⟩) 1 1] 27 (0, 0))) w1.heap.size) := ⟨k1.size, (k1.alloc _).alloc _, by have := heap_new (w1.alloc (.cells #[.int .i64 1, .string ⟨#[107]⟩, .bool true, .string ⟨#[118]⟩] 24 (0, 0))) (.cells #[.int .i64 1, .int .i64 1, .int .i64 1, .int .i64 1, .int .i64 1, .int .i64 1, .int .i64 1, .slice (some ⟨w1.heap.size, 0, none⟩) 1 1] 27 (0, 0)); rw [World.size_alloc] at this; exact this, (heap_old _ _ (by rw [World.size_alloc]; omega)).trans (heap_new w1 _)⟩
  clear k1
  go_upto_block 0 with fail
  generalize (w1.alloc (.cells #[.int .i64 1, .string ⟨#[107]⟩, .bool true, .string ⟨#[118]⟩] 24 (0, 0))).alloc (.cells #[.int .i64 1, .int .i64 1, .int .i64 1, .int .i64 1, .int .i64 1, .int .i64 1, .int .i64 1, .slice (some ⟨w1.heap.size, 0, none⟩) 1 1] 27 (0, 0)) = W2 at BG ⊢
  generalize w1.heap.size = Y at BG ⊢
  go_cut [7] (fun s7 wx => ∃ t : TxM, (∃ z : Int, s7 = .int .i64 z) ∧ Right t ∧ Lies w (Y + 1) t wx)
  case first =>
    obtain ⟨⟨m0, m1, m2, m3, m4, m5, m6, m7⟩, f0, f1, f2, f3, f4, f5, f6, f7⟩ := tx_obj BG.out.2.2.1
    rcases HW.out with hq | hq | hq | hq | hq | hq | hq | hq | hq | hq | hq
    · have b0 : (which == 0) = true := by subst hq; rfl
      clear hq
      go_wp2_with fail
      go_meet
      exact ⟨⟨1048575, 1, 1, 1, 1, 1, 1, [op0]⟩, ⟨_, rfl⟩, valid_zero.1 (by decide), Begun.num BG.out 0 _ ⟨1048575, 1, 1, 1, 1, 1, 1, [op0]⟩ rfl rfl⟩
    · have b0 : (which == 0) = false := by subst hq; rfl
      have b1 : (which == 1) = true := by subst hq; rfl
      have n0 : ¬ which = 0 := by omega
      clear hq
      go_wp2_with fail
      go_meet
      exact ⟨⟨1, 1048575, 1, 1, 1, 1, 1, [op0]⟩, ⟨_, rfl⟩, valid_zero.1 (by decide), Begun.num BG.out 1 _ ⟨1, 1048575, 1, 1, 1, 1, 1, [op0]⟩ rfl rfl⟩
    · have b0 : (which == 0) = false := by subst hq; rfl
      have b1 : (which == 1) = false := by subst hq; rfl
      have b2 : (which == 2) = true := by subst hq; rfl
      have n0 : ¬ which = 0 := by omega
      have n1 : ¬ which = 1 := by omega
      clear hq
      go_wp2_with fail
      go_meet
      exact ⟨⟨1, 1, 1099511627776, 1, 1, 1, 1, [op0]⟩, ⟨_, rfl⟩, valid_zero.1 (by decide), Begun.num BG.out 2 _ ⟨1, 1, 1099511627776, 1, 1, 1, 1, [op0]⟩ rfl rfl⟩
    · have b0 : (which == 0) = false := by subst hq; rfl
      have b1 : (which == 1) = false := by subst hq; rfl
      have b2 : (which == 2) = false := by subst hq; rfl
      have b3 : (which == 3) = true := by subst hq; rfl
      have n0 : ¬ which = 0 := by omega
      have n1 : ¬ which = 1 := by omega
      have n2 : ¬ which = 2 := by omega
      clear hq
      go_wp2_with fail
      go_meet
      exact ⟨⟨1, 1, 1, 1099511627776, 1, 1, 1, [op0]⟩, ⟨_, rfl⟩, valid_zero.1 (by decide), Begun.num BG.out 3 _ ⟨1, 1, 1, 1099511627776, 1, 1, 1, [op0]⟩ rfl rfl⟩
    · have b0 : (which == 0) = false := by subst hq; rfl
      have b1 : (which == 1) = false := by subst hq; rfl
      have b2 : (which == 2) = false := by subst hq; rfl
      have b3 : (which == 3) = false := by subst hq; rfl
      have b4 : (which == 4) = true := by subst hq; rfl
      have n0 : ¬ which = 0 := by omega
      have n1 : ¬ which = 1 := by omega
      have n2 : ¬ which = 2 := by omega
      have n3 : ¬ which = 3 := by omega
      clear hq
      go_wp2_with fail
      go_meet
      exact ⟨⟨1, 1, 1, 1, 1099511627776, 1, 1, [op0]⟩, ⟨_, rfl⟩, valid_zero.1 (by decide), Begun.num BG.out 4 _ ⟨1, 1, 1, 1, 1099511627776, 1, 1, [op0]⟩ rfl rfl⟩
    · have b0 : (which == 0) = false := by subst hq; rfl
      have b1 : (which == 1) = false := by subst hq; rfl
      have b2 : (which == 2) = false := by subst hq; rfl
      have b3 : (which == 3) = false := by subst hq; rfl
      have b4 : (which == 4) = false := by subst hq; rfl
      have b5 : (which == 5) = true := by subst hq; rfl
      have n0 : ¬ which = 0 := by omega
      have n1 : ¬ which = 1 := by omega
      have n2 : ¬ which = 2 := by omega
      have n3 : ¬ which = 3 := by omega
      have n4 : ¬ which = 4 := by omega
      clear hq
      go_wp2_with fail
      go_meet
      exact ⟨⟨1, 1, 1, 1, 1, 1099511627776, 1, [op0]⟩, ⟨_, rfl⟩, valid_zero.1 (by decide), Begun.num BG.out 5 _ ⟨1, 1, 1, 1, 1, 1099511627776, 1, [op0]⟩ rfl rfl⟩
    · have b0 : (which == 0) = false := by subst hq; rfl
      have b1 : (which == 1) = false := by subst hq; rfl
      have b2 : (which == 2) = false := by subst hq; rfl
      have b3 : (which == 3) = false := by subst hq; rfl
      have b4 : (which == 4) = false := by subst hq; rfl
      have b5 : (which == 5) = false := by subst hq; rfl
      have b6 : (which == 6) = true := by subst hq; rfl
      have n0 : ¬ which = 0 := by omega
      have n1 : ¬ which = 1 := by omega
      have n2 : ¬ which = 2 := by omega
      have n3 : ¬ which = 3 := by omega
      have n4 : ¬ which = 4 := by omega
      have n5 : ¬ which = 5 := by omega
      clear hq
      go_wp2_with fail
      go_meet
      exact ⟨⟨1, 1, 1, 1, 1, 1, 1, [op0]⟩, ⟨_, rfl⟩, valid_zero.1 (by decide), Begun.num BG.out 6 _ ⟨1, 1, 1, 1, 1, 1, 1, [op0]⟩ rfl rfl⟩
    · have b0 : (which == 0) = false := by subst hq; rfl
      have b1 : (which == 1) = false := by subst hq; rfl
      have b2 : (which == 2) = false := by subst hq; rfl
      have b3 : (which == 3) = false := by subst hq; rfl
      have b4 : (which == 4) = false := by subst hq; rfl
      have b5 : (which == 5) = false := by subst hq; rfl
      have b6 : (which == 6) = false := by subst hq; rfl
      have b7 : (which == 7) = true := by subst hq; rfl
      have n0 : ¬ which = 0 := by omega
      have n1 : ¬ which = 1 := by omega
      have n2 : ¬ which = 2 := by omega
      have n3 : ¬ which = 3 := by omega
      have n4 : ¬ which = 4 := by omega
      have n5 : ¬ which = 5 := by omega
      have n6 : ¬ which = 6 := by omega
      clear hq
      clear m0 m1 m2 m3 m4 m5 m6 m7 f0 f1 f2 f3 f4 f5 f6 f7
      go_wp2_with fail
      go_loopw [68] (fun _ wr => ∃ j : Nat, j ≤ 15 ∧ Grow w (Y + 1) j wr) (fun _ wr => 16 - lenAt wr (Y + 1))
      case atStart => exact ⟨0, by decide, Begun.grow BG.out⟩
      case round =>
        obtain ⟨j, hj, hG⟩ := hrel
        have HG : Hid _ := hG
        obtain ⟨h0, hk, a, c, hx, ho, hb⟩ := hG
        have e1 := lenAt_of (tx_obj hx).1.2.2.2.2.2.2.2
        obtain ⟨⟨m0, m1, m2, m3, m4, m5, m6, m7⟩, -⟩ := tx_obj hx
        by_cases hlt : j < 15
        · have c1 : decide ((j : Int) + 1 < 16) = true := decide_eq_true (by omega)
          have c2 : (j : Int) + 1 < 16 := by omega
          have HAP : Hid (∀ ty : TypeId, _) := fun ty : TypeId => app_op_one ⟨3, ⟨#[107]⟩, false, ⟨#[]⟩⟩ ho (by rw [grownT_len]; omega) hk.size ty
          have HN : Hid (∀ w' a' c', OwnO w.heap.size w' (.slice a' (j + 1 + 1) c') ((grownT j).ops ++ [op3]) → Same (fun k => (Value.slice a (j + 1) c).ownBlock = some k) wr w' → (∀ k, (Value.slice a' (j + 1 + 1) c').ownBlock = some k → (Value.slice a (j + 1) c).ownBlock = some k ∨ wr.heap.size ≤ k) → _) := fun w' a' c' o' s' n' => Grow.next h0 hk hx ho hb o' s' n'
          have HX : Hid (∀ w', Same (fun k => (Value.slice a (j + 1) c).ownBlock = some k) wr w' → _) := fun w' (s' : Same (fun k => (Value.slice a (j + 1) c).ownBlock = some k) wr w') => tx_obj (s'.stay hx (fun e => hb _ e rfl))
          have E1 : Hid _ := e1
          clear h0 hk hx ho hb e1
          go_wp2_with (at_builtin; refine wpList_app rfl (.tmp 70) (.tmp 72) 25 25 rfl _ _ rfl rfl _ HAP.out ?_; rintro v14 w14 ⟨o14, s14, n14⟩; obtain ⟨a14, c14, e14, -⟩ := OwnO.ops o14; rw [List.length_append, grownT_len] at e14; subst e14; obtain ⟨⟨y0, y1, y2, y3, y4, y5, y6, y7⟩, z0, z1, z2, z3, z4, z5, z6, z7⟩ := HX.out _ s14; have G2 : Hid _ := HN.out _ _ _ o14 s14 n14; clear o14 s14 n14)
          go_roundw
          case rel => exact ⟨j + 1, by omega, G2.out.1⟩
          case measure =>
            have q1 := G2.out.2
            have q2 := E1.out
            rw [q2]
            rw [q1]
            omega
        · obtain rfl : j = 15 := by omega
          clear h0 hk hx ho hb e1 hlt hj
          go_wp2_with fail
          go_meet
          exact ⟨grownT 15, ⟨_, rfl⟩, valid_zero.1 (by decide), Grow.lies HG.out (by decide)⟩
    · have b0 : (which == 0) = false := by subst hq; rfl
      have b1 : (which == 1) = false := by subst hq; rfl
      have b2 : (which == 2) = false := by subst hq; rfl
      have b3 : (which == 3) = false := by subst hq; rfl
      have b4 : (which == 4) = false := by subst hq; rfl
      have b5 : (which == 5) = false := by subst hq; rfl
      have b6 : (which == 6) = false := by subst hq; rfl
      have b7 : (which == 7) = false := by subst hq; rfl
      have b8 : (which == 8) = true := by subst hq; rfl
      have n0 : ¬ which = 0 := by omega
      have n1 : ¬ which = 1 := by omega
      have n2 : ¬ which = 2 := by omega
      have n3 : ¬ which = 3 := by omega
      have n4 : ¬ which = 4 := by omega
      have n5 : ¬ which = 5 := by omega
      have n6 : ¬ which = 6 := by omega
      have n7 : ¬ which = 7 := by omega
      clear hq
      clear m0 m1 m2 m3 m4 m5 m6 f0 f1 f2 f3 f4 f5 f6 f7
      have q0 : W2.cell? ⟨Y, 0, none⟩ = some (.int .i64 1) := (cell_of BG.out.2.2.2 0).trans rfl
      have q1 : W2.cell? ⟨Y, 1, none⟩ = some (.string ⟨#[107]⟩) := (cell_of BG.out.2.2.2 1).trans rfl
      have q2 : W2.cell? ⟨Y, 2, none⟩ = some (.bool true) := (cell_of BG.out.2.2.2 2).trans rfl
      have q3 : W2.cell? ⟨Y, 3, none⟩ = some (.string ⟨#[118]⟩) := (cell_of BG.out.2.2.2 3).trans rfl
      have g1 : W2.frozen? ⟨Y, 1, none⟩ = false := frozen_of BG.out.2.2.2 1
      have g3 : W2.frozen? ⟨Y, 3, none⟩ = false := frozen_of BG.out.2.2.2 3
      go_wp2_with fail
      go_region
      go_wp2_with fail
      go_meet
      exact ⟨⟨1, 1, 1, 1, 1, 1, 1, [⟨1, ByteArray.extract ⟨#[49, 50, 51, 52, 53, 54, 55, 56, 57]⟩ 0 8, true, ⟨#[118]⟩⟩]⟩, ⟨_, rfl⟩, valid_zero.1 (by decide), Begun.row1 BG.out 1 _ ⟨1, ByteArray.extract ⟨#[49, 50, 51, 52, 53, 54, 55, 56, 57]⟩ 0 8, true, ⟨#[118]⟩⟩ rfl⟩
    · have b0 : (which == 0) = false := by subst hq; rfl
      have b1 : (which == 1) = false := by subst hq; rfl
      have b2 : (which == 2) = false := by subst hq; rfl
      have b3 : (which == 3) = false := by subst hq; rfl
      have b4 : (which == 4) = false := by subst hq; rfl
      have b5 : (which == 5) = false := by subst hq; rfl
      have b6 : (which == 6) = false := by subst hq; rfl
      have b7 : (which == 7) = false := by subst hq; rfl
      have b8 : (which == 8) = false := by subst hq; rfl
      have b9 : (which == 9) = true := by subst hq; rfl
      have n0 : ¬ which = 0 := by omega
      have n1 : ¬ which = 1 := by omega
      have n2 : ¬ which = 2 := by omega
      have n3 : ¬ which = 3 := by omega
      have n4 : ¬ which = 4 := by omega
      have n5 : ¬ which = 5 := by omega
      have n6 : ¬ which = 6 := by omega
      have n7 : ¬ which = 7 := by omega
      have n8 : ¬ which = 8 := by omega
      clear hq
      clear m0 m1 m2 m3 m4 m5 m6 f0 f1 f2 f3 f4 f5 f6 f7
      have q0 : W2.cell? ⟨Y, 0, none⟩ = some (.int .i64 1) := (cell_of BG.out.2.2.2 0).trans rfl
      have q1 : W2.cell? ⟨Y, 1, none⟩ = some (.string ⟨#[107]⟩) := (cell_of BG.out.2.2.2 1).trans rfl
      have q2 : W2.cell? ⟨Y, 2, none⟩ = some (.bool true) := (cell_of BG.out.2.2.2 2).trans rfl
      have q3 : W2.cell? ⟨Y, 3, none⟩ = some (.string ⟨#[118]⟩) := (cell_of BG.out.2.2.2 3).trans rfl
      have g1 : W2.frozen? ⟨Y, 1, none⟩ = false := frozen_of BG.out.2.2.2 1
      have g3 : W2.frozen? ⟨Y, 3, none⟩ = false := frozen_of BG.out.2.2.2 3
      go_wp2_with fail
      go_region
      go_wp2_with fail
      go_meet
      exact ⟨⟨1, 1, 1, 1, 1, 1, 1, [⟨1, ⟨#[107]⟩, true, ByteArray.extract ⟨#[49, 50, 51, 52, 53, 54, 55, 56, 57, 48, 49, 50, 51, 52, 53, 54, 55]⟩ 0 16⟩]⟩, ⟨_, rfl⟩, valid_zero.1 (by decide), Begun.row1 BG.out 3 _ ⟨1, ⟨#[107]⟩, true, ByteArray.extract ⟨#[49, 50, 51, 52, 53, 54, 55, 56, 57, 48, 49, 50, 51, 52, 53, 54, 55]⟩ 0 16⟩ rfl⟩
    · have b0 : (which == 0) = false := by subst hq; rfl
      have b1 : (which == 1) = false := by subst hq; rfl
      have b2 : (which == 2) = false := by subst hq; rfl
      have b3 : (which == 3) = false := by subst hq; rfl
      have b4 : (which == 4) = false := by subst hq; rfl
      have b5 : (which == 5) = false := by subst hq; rfl
      have b6 : (which == 6) = false := by subst hq; rfl
      have b7 : (which == 7) = false := by subst hq; rfl
      have b8 : (which == 8) = false := by subst hq; rfl
      have b9 : (which == 9) = false := by subst hq; rfl
      have b10 : (which == 10) = true := by subst hq; rfl
      have n0 : ¬ which = 0 := by omega
      have n1 : ¬ which = 1 := by omega
      have n2 : ¬ which = 2 := by omega
      have n3 : ¬ which = 3 := by omega
      have n4 : ¬ which = 4 := by omega
      have n5 : ¬ which = 5 := by omega
      have n6 : ¬ which = 6 := by omega
      have n7 : ¬ which = 7 := by omega
      have n8 : ¬ which = 8 := by omega
      have n9 : ¬ which = 9 := by omega
      clear hq
      clear m0 m1 m2 m3 m4 m5 m6 f0 f1 f2 f3 f4 f5 f6 f7
      have q0 : W2.cell? ⟨Y, 0, none⟩ = some (.int .i64 1) := (cell_of BG.out.2.2.2 0).trans rfl
      have q1 : W2.cell? ⟨Y, 1, none⟩ = some (.string ⟨#[107]⟩) := (cell_of BG.out.2.2.2 1).trans rfl
      have q2 : W2.cell? ⟨Y, 2, none⟩ = some (.bool true) := (cell_of BG.out.2.2.2 2).trans rfl
      have q3 : W2.cell? ⟨Y, 3, none⟩ = some (.string ⟨#[118]⟩) := (cell_of BG.out.2.2.2 3).trans rfl
      have g1 : W2.frozen? ⟨Y, 1, none⟩ = false := frozen_of BG.out.2.2.2 1
      have g3 : W2.frozen? ⟨Y, 3, none⟩ = false := frozen_of BG.out.2.2.2 3
      go_wp2_with fail
      go_region
      go_wp2_with fail
      go_meet
      exact ⟨⟨1, 1, 1, 1, 1, 1, 1, [⟨1, ByteArray.extract ⟨#[107]⟩ 0 1, true, ⟨#[118]⟩⟩]⟩, ⟨_, rfl⟩, valid_zero.1 (by decide), Begun.row1 BG.out 1 _ ⟨1, ByteArray.extract ⟨#[107]⟩ 0 1, true, ⟨#[118]⟩⟩ rfl⟩
  case rest =>
    obtain ⟨t, ⟨z, rfl⟩, hr, hl, hk, a, c, hx, ho⟩ := hcut
    have K0 : Hid _ := hk
    have X0 : Hid _ := hx
    obtain ⟨l1, l2⟩ := body_len hr
    have HC : Hid _ := copy_any wc t a c (OwnO.argt ho hl)
    have HE : Hid (∀ W v, TxA W t v → _) := fun W v (q : TxA W t v) => encode_ok W t v q hr
    have HD : Hid (∀ base W v, OwnB base W v (body t) → _) := fun base W v (o : OwnB base W v (body t)) => decode_own_ok o (byts_body t) (by omega) (dec_body hr)
    have HS : Hid (∀ W va vb, TxA W t va → TxA W t vb → _) := fun W va vb ha hb => sameT W t va vb ha hb (by omega)
    obtain ⟨n, en⟩ : ∃ n, n = t.ops.length := ⟨_, rfl⟩
    have EN : Hid _ := en
    have HT : Hid (∀ W, Kept wc W → TxA W t (txV t (.slice a n c))) := fun W k => by rw [en]; exact ((OwnO.argt ho hl).on k).txa
    rw [← en] at HC HD X0
    obtain ⟨⟨m0, m1, m2, m3, m4, m5, m6, m7⟩, -⟩ := tx_obj X0.out
    clear hr hl hk hx ho en l1 l2
    unfold txV at HC HD HT
    go_wp2_with fail
    refine Calls.mono HC.out ?_
    rintro e w3 ⟨a3, c3, rfl, oo, k3⟩
    have TX3 : Hid _ := OwnO.txan EN.out oo
    have K3 : Hid (Kept wc w3) := k3
    clear m0 m1 m2 m3 m4 m5 m6 m7 oo k3
    go_wp2_with fail
    refine Calls.mono (HE.out _ _ TX3.out) ?_
    rintro e w4 ⟨v4, rfl, o4, k4⟩
    obtain ⟨a4, c4, rfl, -⟩ := OwnB.bytes o4
    have K4 : Hid (Kept wc w4) := Same.trans' K3.out k4
    have O4 : Hid _ := o4
    clear k4 o4
    go_wp2_with fail
    refine Calls.mono (HD.out _ _ _ O4.out) ?_
    rintro e w5 ⟨a5, c5, rfl, o5, k5⟩
    have K5 : Hid (Kept wc w5) := Same.trans' K4.out k5
    have x5 := K5.out.stay X0.out (fun h => h)
    have hlt5 := lt_of_heap x5
    obtain ⟨⟨m0, m1, m2, m3, m4, m5, m6, m7⟩, -⟩ := tx_obj x5
    have T5 : Hid _ := OwnO.txan EN.out o5
    unfold txV at T5
    clear k5 o5 x5
    go_wp2_with fail
    refine Calls.mono (HS.out _ _ _ (HT.out _ (K5.out.alloc _)) (TxA.on T5.out ((Same.refl _ _).alloc _))) ?_
    rintro e w6 ⟨rfl, k6⟩
    have K6 : Hid (Kept w w6) := Same.trans' K0.out (Same.trans' (K5.out.alloc _) k6)
    clear k6
    go_wp2_with fail
    go_ret
    exact ⟨rfl, K6.out⟩
end Go.Proofs.Ytcmoejnljhmflab
