/- What is proved: the document's Text of a config; condition: its numbers are of no sign and small. -/
import Derived.Test.YtolooejcgdknnaaDoorCfU
import Derived.Test.YtolooejcgdknnaaDoorNoRl
namespace Go.Proofs.YtolooejcgdknnaaDoor
open Go.RowKit

/-- No number has a sign. -/
def Nn (x : Cg) : Prop := ∀ k, 0 ≤ fl x k ∧ fl x k ≤ 1099511627777
def nmA : Array Value := #[.string ⟨#[98, 117, 100, 103, 101, 116]⟩, .string ⟨#[102, 97, 110]⟩, .string ⟨#[115, 116, 97, 116, 101]⟩, .string ⟨#[101, 112, 115]⟩, .string ⟨#[108, 105, 109, 105, 116]⟩]
theorem pr_len' {x : Cg} (h : Nn x) : ∀ k, k ≤ 5 → (pr x k).length ≤ 40 * k
  | 0, _ => Nat.le_refl _
  | k + 1, hk => by
    have ih := pr_len' h k (by omega)
    obtain ⟨h0, h1⟩ := h k
    have h2 := Lib.itoa_length_le (fl x k) (by omega) (by omega)
    have h3 : (nmC k).length ≤ 6 := by
      unfold nmC
      split <;> decide
    have h4 : (if k = 0 then ([] : List UInt8) else [32]).length ≤ 1 := by split <;> simp
    simp only [pr, pc, List.length_append, List.length_cons, List.length_nil]
    omega
/-- What stands while the document's text is written. -/
structure Prt (x : Cg) (w W : World) (g1 g2 : Nat) (v : Value) (l : List UInt8) : Prop where
  own : OwnB w.heap.size W v (nu l)
  kp : Kept w W
  nums : W.heap[g1]? = some (.cells #[.int .i64 x.a, .int .i64 x.b, .int .i64 x.c, .int .i64 x.d, .int .i64 x.e] 42 (0, 0))
  nms : W.heap[g2]? = some (.cells nmA 50 (0, 0))
theorem Prt.on {x : Cg} {w W W' : World} {g1 g2 : Nat} {v : Value} {l : List UInt8} (h : Prt x w W g1 g2 v l) (k : Kept W W') : Prt x w W' g1 g2 v l := ⟨h.own.kept k (fun _ _ e => e), h.kp.trans' k, (k.block _ (lt_of_heap h.nums) (fun e => e)).trans h.nums, (k.block _ (lt_of_heap h.nms) (fun e => e)).trans h.nms⟩
theorem Prt.go {x : Cg} {w W w' : World} {g1 g2 : Nat} {v v' : Value} {l m : List UInt8} (h : Prt x w W g1 g2 v l) (a : ApO w.heap.size W (nu l ++ nu m) v' w') : Prt x w w' g1 g2 v' (l ++ m) :=
  ⟨by rw [nu_app]; exact a.1, Same.trans h.kp a.2.1 (fun i hi e => by omega), a.2.blk h.nums (by decide), a.2.blk h.nms (by decide)⟩
theorem Prt.app {x : Cg} {w W : World} {g1 g2 : Nat} {v : Value} {l : List UInt8} (h : Prt x w W g1 g2 v l) (m : List UInt8) (hl : l.length + m.length ≤ 1000) (ty : TypeId) : ∃ v' w', (Builtin.append_ #[41, 9] ty #[v, tx m]).run Tryd.prog W = .ok v' w' ∧ Prt x w w' g1 g2 v' (l ++ m) := by
  obtain ⟨v', w', h1, h2⟩ := app_txO m h.own (by rw [nu_len]; omega) h.kp.size ty
  exact ⟨v', w', h1, h.go h2⟩
theorem Prt.lit {x : Cg} {w W : World} {g1 g2 : Nat} {v : Value} {l : List UInt8} (h : Prt x w W g1 g2 v l) (c : UInt8) (hl : l.length ≤ 900) (g : Nat) (hg : g = W.heap.size) (ty : TypeId) : ∃ v' w', (Builtin.append_ #[41, 41] ty #[v, .slice (some ⟨g, 0, none⟩) 1 1]).run Tryd.prog (W.alloc (.cells #[.int .u8 (c.toNat : Int)] 5)) = .ok v' w' ∧ Prt x w w' g1 g2 v' (l ++ [c]) := by
  obtain ⟨v', w', h1, h2⟩ := app_litO [(c.toNat : Int)] h.own (by rw [nu_len]; simp; omega) h.kp.size g hg ty
  exact ⟨v', w', h1, h.go h2⟩
theorem Prt.row {x : Cg} {w W : World} {g1 g2 : Nat} {v : Value} {l m : List UInt8} {oa : Option Addr} {c n : Nat} (h : Prt x w W g1 g2 v l) (hb : BytesAt W oa (nu m)) (hn : oa = none → (nu m).length = 0 ∧ c = 0) (hl : l.length + m.length ≤ 1000) (en : (nu m).length = n) (ty : TypeId) : ∃ v' w', (Builtin.append_ #[41, 41] ty #[v, .slice oa n c]).run Tryd.prog W = .ok v' w' ∧ Prt x w w' g1 g2 v' (l ++ m) := by
  subst en
  obtain ⟨v', w', h1, h2⟩ := app_rowO (c := c) h.own hb hn (by rw [nu_len, nu_len]; omega) h.kp.size ty
  exact ⟨v', w', h1, h.go h2⟩
set_option maxRecDepth 100000 in
set_option maxHeartbeats 3200000 in
theorem rtext_cf (x : Cg) (hx : Nn x) (w : World) : Calls Tryd.prog 12 #[.agg #[.int .i64 x.a, .int .i64 x.b, .int .i64 x.c, .int .i64 x.d, .int .i64 x.e]] w fun r w' => r = .returned (tx (pr x 5)) ∧ Kept w w' := by
  have HNM : Hid (∀ w, _) := names_any
  have HD : Hid (∀ (k n : Nat) W, fl x k = (n : Int) → Calls Tryd.prog 21 #[.int .i64 (fl x k)] W fun e w' => ∃ v, e = .returned v ∧ OwnB W.heap.size w' v (nu (Lib.itoa (fl x k))) ∧ Kept W w') := fun k n W e => by
    rw [e]
    exact rdigits_any n (by have := hx k; omega) W
  have HX : Hid (Nn x) := hx
  clear hx
  go_enter Tryd.func12, Tryd.ntmps12
  go_upto_region 2 with fail
  have K0 : Hid (Kept w ((w.alloc (.cells #[.int .i64 x.a, .int .i64 x.b, .int .i64 x.c, .int .i64 x.d, .int .i64 x.e] 23)).alloc (.cells #[.int .i64 x.a, .int .i64 x.b, .int .i64 x.c, .int .i64 x.d, .int .i64 x.e] 42))) := ((Same.refl _ w).alloc _).alloc _
  have B0 : Hid (((w.alloc (.cells #[.int .i64 x.a, .int .i64 x.b, .int .i64 x.c, .int .i64 x.d, .int .i64 x.e] 23)).alloc (.cells #[.int .i64 x.a, .int .i64 x.b, .int .i64 x.c, .int .i64 x.d, .int .i64 x.e] 42)).heap[w.heap.size + 1]? = some (.cells #[.int .i64 x.a, .int .i64 x.b, .int .i64 x.c, .int .i64 x.d, .int .i64 x.e] 42 (0, 0))) := by
    have h2 := heap_new (w.alloc (.cells #[.int .i64 x.a, .int .i64 x.b, .int .i64 x.c, .int .i64 x.d, .int .i64 x.e] 23)) (.cells #[.int .i64 x.a, .int .i64 x.b, .int .i64 x.c, .int .i64 x.d, .int .i64 x.e] 42)
    rw [World.size_alloc] at h2
    exact h2
  generalize World.alloc (World.alloc w _) _ = W0 at K0 B0 ⊢
  generalize w.heap.size + 1 = g1 at B0 ⊢
  go_wp2_with fail
  refine Calls.mono (HNM.out _) ?_
  rintro r w1 ⟨rfl, k1⟩
  have K1 : Hid (Kept w w1) := K0.out.trans' k1
  have B1 : Hid (w1.heap[g1]? = _) := (k1.block _ (lt_of_heap B0.out) (fun e => e)).trans B0.out
  clear k1 K0 B0
  go_upto_region 5 with fail
  have P0 : Hid (Prt x w (w1.alloc (.cells nmA 50)) g1 w1.heap.size (.slice none 0 0) []) := ⟨OwnB.nil _ _, K1.out.alloc _, (heap_old _ _ (lt_of_heap B1.out)).trans B1.out, heap_new _ _⟩
  unfold nmA at P0
  generalize World.alloc w1 _ = W1 at P0 ⊢
  generalize w1.heap.size = g2 at P0 ⊢
  clear K1 B1
  go_loopw [5, 6] (fun v i wr => ∃ k : Nat, i = .int .i64 (k : Int) ∧ k ≤ 5 ∧ Prt x w wr g1 g2 v (pr x k)) (fun _ i _ => 5 - (intOf i).toNat)
  case atStart => exact ⟨0, rfl, by omega, P0.out⟩
  case round =>
    obtain ⟨k, rfl, hk, h1⟩ := hrel
    rename World => W
    have P1 : Hid (Prt x w W g1 g2 _ (pr x k)) := h1
    clear h1
    have HLN : Hid ((pr x k).length ≤ 40 * k) := pr_len' HX.out k hk
    have hc : k = 0 ∨ k = 1 ∨ k = 2 ∨ k = 3 ∨ k = 4 ∨ k = 5 := by omega
    rcases hc with rfl | rfl | rfl | rfl | rfl | rfl
    · obtain ⟨L0, eL0⟩ : ∃ L0, L0 = pr x 0 := ⟨_, rfl⟩
      rw [← eL0] at P1 HLN
      have HL0 : Hid (L0 = pr x 0) := eL0
      clear eL0
      rw [← List.append_nil L0] at P1
      have y0 : W.cell? ⟨g2, 0, none⟩ = some (tx (nmC 0)) := cell_of P1.out.nms 0
      have yl := lt_of_heap P1.out.nms
      go_wp2_with (at_builtin; apply Hid.out)
      refine wpList_app rfl (.tmp 29) (.tmp 32) 41 9 rfl _ (tx (nmC 0)) rfl rfl _ (P1.out.app (nmC 0) (by have := HLN.out; simp [nmC]; omega)) ?_
      rintro v3 w3 p3
      have P3 : Hid (Prt x w w3 g1 g2 v3 (L0 ++ [] ++ nmC 0)) := p3
      clear p3 P1 y0 yl
      go_wp2_with (at_builtin; apply Hid.out)
      refine wpList_app rfl (.tmp 34) (.tmp 35) 41 41 rfl _ (.slice (some ⟨_, 0, none⟩) 1 1) rfl rfl _ (P3.out.lit 61 (by have := HLN.out; simp [nmC]; omega) _ rfl) ?_
      rintro v4 w4 p4
      have P4 : Hid (Prt x w w4 g1 g2 v4 (L0 ++ [] ++ nmC 0 ++ [61])) := p4
      clear p4 P3
      have y1 : w4.cell? ⟨g1, 0, none⟩ = some (.int .i64 x.a) := cell_of P4.out.nums 0
      have yl := lt_of_heap P4.out.nums
      go_wp2_with fail
      refine Calls.mono (HD.out 0 (fl x 0).toNat _ (by have := HX.out 0; omega)) ?_
      rintro r w5 ⟨v5, rfl, o5, k5⟩
      obtain ⟨oa, c, rfl, hby, hnil⟩ := OwnB.bytes o5
      have P5 : Hid (Prt x w w5 g1 g2 _ (L0 ++ [] ++ nmC 0 ++ [61])) := P4.out.on k5
      have HBY : Hid (BytesAt w5 oa (nu (Lib.itoa (fl x 0)))) := hby
      have HNI : Hid (oa = none → (nu (Lib.itoa (fl x 0))).length = 0 ∧ c = 0) := hnil.2.1
      have HIL : Hid ((Lib.itoa (fl x 0)).length ≤ 21) := Lib.itoa_length_le _ (by have := HX.out 0; omega) (by have := HX.out 0; omega)
      clear o5 k5 hby hnil P4 y1 yl
      obtain ⟨n5, en5⟩ : ∃ n5, (nu (Lib.itoa (fl x 0))).length = n5 := ⟨_, rfl⟩
      have HEN : Hid ((nu (Lib.itoa (fl x 0))).length = n5) := en5
      rw [en5]
      clear en5
      go_wp2_with (at_builtin; apply Hid.out)
      refine wpList_app rfl (.tmp 41) (.tmp 42) 41 41 rfl _ (.slice oa n5 c) rfl rfl _ (P5.out.row HBY.out HNI.out (by have := HLN.out; have := HIL.out; simp [nmC]; omega) HEN.out) ?_
      rintro v6 w6 p6
      have P6 : Hid (Prt x w w6 g1 g2 v6 (pr x 1)) := by
        rw [show pr x 1 = L0 ++ [] ++ nmC 0 ++ [61] ++ Lib.itoa (fl x 0) by rw [HL0.out]; simp [pr, pc, fl]]
        exact p6
      clear p6 P5 HBY HNI HIL HEN
      go_wp2_with fail
      go_roundw
      case rel => exact ⟨1, rfl, by omega, P6.out⟩
      case measure => simp [intOf]
    · obtain ⟨L0, eL0⟩ : ∃ L0, L0 = pr x 1 := ⟨_, rfl⟩
      rw [← eL0] at P1 HLN
      have HL0 : Hid (L0 = pr x 1) := eL0
      clear eL0
      go_wp2_with (at_builtin; apply Hid.out)
      refine wpList_app rfl (.tmp 26) (.tmp 27) 41 41 rfl _ (.slice (some ⟨_, 0, none⟩) 1 1) rfl rfl _ (P1.out.lit 32 (by have := HLN.out; omega) _ rfl) ?_
      rintro v2 w2 p2
      have P2 : Hid (Prt x w w2 g1 g2 v2 (L0 ++ [32])) := p2
      clear p2 P1
      have y0 : w2.cell? ⟨g2, 1, none⟩ = some (tx (nmC 1)) := cell_of P2.out.nms 1
      have yl := lt_of_heap P2.out.nms
      go_wp2_with (at_builtin; apply Hid.out)
      refine wpList_app rfl (.tmp 29) (.tmp 32) 41 9 rfl _ (tx (nmC 1)) rfl rfl _ (P2.out.app (nmC 1) (by have := HLN.out; simp [nmC]; omega)) ?_
      rintro v3 w3 p3
      have P3 : Hid (Prt x w w3 g1 g2 v3 (L0 ++ [32] ++ nmC 1)) := p3
      clear p3 P2 y0 yl
      go_wp2_with (at_builtin; apply Hid.out)
      refine wpList_app rfl (.tmp 34) (.tmp 35) 41 41 rfl _ (.slice (some ⟨_, 0, none⟩) 1 1) rfl rfl _ (P3.out.lit 61 (by have := HLN.out; simp [nmC]; omega) _ rfl) ?_
      rintro v4 w4 p4
      have P4 : Hid (Prt x w w4 g1 g2 v4 (L0 ++ [32] ++ nmC 1 ++ [61])) := p4
      clear p4 P3
      have y1 : w4.cell? ⟨g1, 1, none⟩ = some (.int .i64 x.b) := cell_of P4.out.nums 1
      have yl := lt_of_heap P4.out.nums
      go_wp2_with fail
      refine Calls.mono (HD.out 1 (fl x 1).toNat _ (by have := HX.out 1; omega)) ?_
      rintro r w5 ⟨v5, rfl, o5, k5⟩
      obtain ⟨oa, c, rfl, hby, hnil⟩ := OwnB.bytes o5
      have P5 : Hid (Prt x w w5 g1 g2 _ (L0 ++ [32] ++ nmC 1 ++ [61])) := P4.out.on k5
      have HBY : Hid (BytesAt w5 oa (nu (Lib.itoa (fl x 1)))) := hby
      have HNI : Hid (oa = none → (nu (Lib.itoa (fl x 1))).length = 0 ∧ c = 0) := hnil.2.1
      have HIL : Hid ((Lib.itoa (fl x 1)).length ≤ 21) := Lib.itoa_length_le _ (by have := HX.out 1; omega) (by have := HX.out 1; omega)
      clear o5 k5 hby hnil P4 y1 yl
      obtain ⟨n5, en5⟩ : ∃ n5, (nu (Lib.itoa (fl x 1))).length = n5 := ⟨_, rfl⟩
      have HEN : Hid ((nu (Lib.itoa (fl x 1))).length = n5) := en5
      rw [en5]
      clear en5
      go_wp2_with (at_builtin; apply Hid.out)
      refine wpList_app rfl (.tmp 41) (.tmp 42) 41 41 rfl _ (.slice oa n5 c) rfl rfl _ (P5.out.row HBY.out HNI.out (by have := HLN.out; have := HIL.out; simp [nmC]; omega) HEN.out) ?_
      rintro v6 w6 p6
      have P6 : Hid (Prt x w w6 g1 g2 v6 (pr x 2)) := by
        rw [show pr x 2 = L0 ++ [32] ++ nmC 1 ++ [61] ++ Lib.itoa (fl x 1) by rw [HL0.out]; simp [pr, pc, fl]]
        exact p6
      clear p6 P5 HBY HNI HIL HEN
      go_wp2_with fail
      go_roundw
      case rel => exact ⟨2, rfl, by omega, P6.out⟩
      case measure => simp [intOf]
    · obtain ⟨L0, eL0⟩ : ∃ L0, L0 = pr x 2 := ⟨_, rfl⟩
      rw [← eL0] at P1 HLN
      have HL0 : Hid (L0 = pr x 2) := eL0
      clear eL0
      go_wp2_with (at_builtin; apply Hid.out)
      refine wpList_app rfl (.tmp 26) (.tmp 27) 41 41 rfl _ (.slice (some ⟨_, 0, none⟩) 1 1) rfl rfl _ (P1.out.lit 32 (by have := HLN.out; omega) _ rfl) ?_
      rintro v2 w2 p2
      have P2 : Hid (Prt x w w2 g1 g2 v2 (L0 ++ [32])) := p2
      clear p2 P1
      have y0 : w2.cell? ⟨g2, 2, none⟩ = some (tx (nmC 2)) := cell_of P2.out.nms 2
      have yl := lt_of_heap P2.out.nms
      go_wp2_with (at_builtin; apply Hid.out)
      refine wpList_app rfl (.tmp 29) (.tmp 32) 41 9 rfl _ (tx (nmC 2)) rfl rfl _ (P2.out.app (nmC 2) (by have := HLN.out; simp [nmC]; omega)) ?_
      rintro v3 w3 p3
      have P3 : Hid (Prt x w w3 g1 g2 v3 (L0 ++ [32] ++ nmC 2)) := p3
      clear p3 P2 y0 yl
      go_wp2_with (at_builtin; apply Hid.out)
      refine wpList_app rfl (.tmp 34) (.tmp 35) 41 41 rfl _ (.slice (some ⟨_, 0, none⟩) 1 1) rfl rfl _ (P3.out.lit 61 (by have := HLN.out; simp [nmC]; omega) _ rfl) ?_
      rintro v4 w4 p4
      have P4 : Hid (Prt x w w4 g1 g2 v4 (L0 ++ [32] ++ nmC 2 ++ [61])) := p4
      clear p4 P3
      have y1 : w4.cell? ⟨g1, 2, none⟩ = some (.int .i64 x.c) := cell_of P4.out.nums 2
      have yl := lt_of_heap P4.out.nums
      go_wp2_with fail
      refine Calls.mono (HD.out 2 (fl x 2).toNat _ (by have := HX.out 2; omega)) ?_
      rintro r w5 ⟨v5, rfl, o5, k5⟩
      obtain ⟨oa, c, rfl, hby, hnil⟩ := OwnB.bytes o5
      have P5 : Hid (Prt x w w5 g1 g2 _ (L0 ++ [32] ++ nmC 2 ++ [61])) := P4.out.on k5
      have HBY : Hid (BytesAt w5 oa (nu (Lib.itoa (fl x 2)))) := hby
      have HNI : Hid (oa = none → (nu (Lib.itoa (fl x 2))).length = 0 ∧ c = 0) := hnil.2.1
      have HIL : Hid ((Lib.itoa (fl x 2)).length ≤ 21) := Lib.itoa_length_le _ (by have := HX.out 2; omega) (by have := HX.out 2; omega)
      clear o5 k5 hby hnil P4 y1 yl
      obtain ⟨n5, en5⟩ : ∃ n5, (nu (Lib.itoa (fl x 2))).length = n5 := ⟨_, rfl⟩
      have HEN : Hid ((nu (Lib.itoa (fl x 2))).length = n5) := en5
      rw [en5]
      clear en5
      go_wp2_with (at_builtin; apply Hid.out)
      refine wpList_app rfl (.tmp 41) (.tmp 42) 41 41 rfl _ (.slice oa n5 c) rfl rfl _ (P5.out.row HBY.out HNI.out (by have := HLN.out; have := HIL.out; simp [nmC]; omega) HEN.out) ?_
      rintro v6 w6 p6
      have P6 : Hid (Prt x w w6 g1 g2 v6 (pr x 3)) := by
        rw [show pr x 3 = L0 ++ [32] ++ nmC 2 ++ [61] ++ Lib.itoa (fl x 2) by rw [HL0.out]; simp [pr, pc, fl]]
        exact p6
      clear p6 P5 HBY HNI HIL HEN
      go_wp2_with fail
      go_roundw
      case rel => exact ⟨3, rfl, by omega, P6.out⟩
      case measure => simp [intOf]
    · obtain ⟨L0, eL0⟩ : ∃ L0, L0 = pr x 3 := ⟨_, rfl⟩
      rw [← eL0] at P1 HLN
      have HL0 : Hid (L0 = pr x 3) := eL0
      clear eL0
      go_wp2_with (at_builtin; apply Hid.out)
      refine wpList_app rfl (.tmp 26) (.tmp 27) 41 41 rfl _ (.slice (some ⟨_, 0, none⟩) 1 1) rfl rfl _ (P1.out.lit 32 (by have := HLN.out; omega) _ rfl) ?_
      rintro v2 w2 p2
      have P2 : Hid (Prt x w w2 g1 g2 v2 (L0 ++ [32])) := p2
      clear p2 P1
      have y0 : w2.cell? ⟨g2, 3, none⟩ = some (tx (nmC 3)) := cell_of P2.out.nms 3
      have yl := lt_of_heap P2.out.nms
      go_wp2_with (at_builtin; apply Hid.out)
      refine wpList_app rfl (.tmp 29) (.tmp 32) 41 9 rfl _ (tx (nmC 3)) rfl rfl _ (P2.out.app (nmC 3) (by have := HLN.out; simp [nmC]; omega)) ?_
      rintro v3 w3 p3
      have P3 : Hid (Prt x w w3 g1 g2 v3 (L0 ++ [32] ++ nmC 3)) := p3
      clear p3 P2 y0 yl
      go_wp2_with (at_builtin; apply Hid.out)
      refine wpList_app rfl (.tmp 34) (.tmp 35) 41 41 rfl _ (.slice (some ⟨_, 0, none⟩) 1 1) rfl rfl _ (P3.out.lit 61 (by have := HLN.out; simp [nmC]; omega) _ rfl) ?_
      rintro v4 w4 p4
      have P4 : Hid (Prt x w w4 g1 g2 v4 (L0 ++ [32] ++ nmC 3 ++ [61])) := p4
      clear p4 P3
      have y1 : w4.cell? ⟨g1, 3, none⟩ = some (.int .i64 x.d) := cell_of P4.out.nums 3
      have yl := lt_of_heap P4.out.nums
      go_wp2_with fail
      refine Calls.mono (HD.out 3 (fl x 3).toNat _ (by have := HX.out 3; omega)) ?_
      rintro r w5 ⟨v5, rfl, o5, k5⟩
      obtain ⟨oa, c, rfl, hby, hnil⟩ := OwnB.bytes o5
      have P5 : Hid (Prt x w w5 g1 g2 _ (L0 ++ [32] ++ nmC 3 ++ [61])) := P4.out.on k5
      have HBY : Hid (BytesAt w5 oa (nu (Lib.itoa (fl x 3)))) := hby
      have HNI : Hid (oa = none → (nu (Lib.itoa (fl x 3))).length = 0 ∧ c = 0) := hnil.2.1
      have HIL : Hid ((Lib.itoa (fl x 3)).length ≤ 21) := Lib.itoa_length_le _ (by have := HX.out 3; omega) (by have := HX.out 3; omega)
      clear o5 k5 hby hnil P4 y1 yl
      obtain ⟨n5, en5⟩ : ∃ n5, (nu (Lib.itoa (fl x 3))).length = n5 := ⟨_, rfl⟩
      have HEN : Hid ((nu (Lib.itoa (fl x 3))).length = n5) := en5
      rw [en5]
      clear en5
      go_wp2_with (at_builtin; apply Hid.out)
      refine wpList_app rfl (.tmp 41) (.tmp 42) 41 41 rfl _ (.slice oa n5 c) rfl rfl _ (P5.out.row HBY.out HNI.out (by have := HLN.out; have := HIL.out; simp [nmC]; omega) HEN.out) ?_
      rintro v6 w6 p6
      have P6 : Hid (Prt x w w6 g1 g2 v6 (pr x 4)) := by
        rw [show pr x 4 = L0 ++ [32] ++ nmC 3 ++ [61] ++ Lib.itoa (fl x 3) by rw [HL0.out]; simp [pr, pc, fl]]
        exact p6
      clear p6 P5 HBY HNI HIL HEN
      go_wp2_with fail
      go_roundw
      case rel => exact ⟨4, rfl, by omega, P6.out⟩
      case measure => simp [intOf]
    · obtain ⟨L0, eL0⟩ : ∃ L0, L0 = pr x 4 := ⟨_, rfl⟩
      rw [← eL0] at P1 HLN
      have HL0 : Hid (L0 = pr x 4) := eL0
      clear eL0
      go_wp2_with (at_builtin; apply Hid.out)
      refine wpList_app rfl (.tmp 26) (.tmp 27) 41 41 rfl _ (.slice (some ⟨_, 0, none⟩) 1 1) rfl rfl _ (P1.out.lit 32 (by have := HLN.out; omega) _ rfl) ?_
      rintro v2 w2 p2
      have P2 : Hid (Prt x w w2 g1 g2 v2 (L0 ++ [32])) := p2
      clear p2 P1
      have y0 : w2.cell? ⟨g2, 4, none⟩ = some (tx (nmC 4)) := cell_of P2.out.nms 4
      have yl := lt_of_heap P2.out.nms
      go_wp2_with (at_builtin; apply Hid.out)
      refine wpList_app rfl (.tmp 29) (.tmp 32) 41 9 rfl _ (tx (nmC 4)) rfl rfl _ (P2.out.app (nmC 4) (by have := HLN.out; simp [nmC]; omega)) ?_
      rintro v3 w3 p3
      have P3 : Hid (Prt x w w3 g1 g2 v3 (L0 ++ [32] ++ nmC 4)) := p3
      clear p3 P2 y0 yl
      go_wp2_with (at_builtin; apply Hid.out)
      refine wpList_app rfl (.tmp 34) (.tmp 35) 41 41 rfl _ (.slice (some ⟨_, 0, none⟩) 1 1) rfl rfl _ (P3.out.lit 61 (by have := HLN.out; simp [nmC]; omega) _ rfl) ?_
      rintro v4 w4 p4
      have P4 : Hid (Prt x w w4 g1 g2 v4 (L0 ++ [32] ++ nmC 4 ++ [61])) := p4
      clear p4 P3
      have y1 : w4.cell? ⟨g1, 4, none⟩ = some (.int .i64 x.e) := cell_of P4.out.nums 4
      have yl := lt_of_heap P4.out.nums
      go_wp2_with fail
      refine Calls.mono (HD.out 4 (fl x 4).toNat _ (by have := HX.out 4; omega)) ?_
      rintro r w5 ⟨v5, rfl, o5, k5⟩
      obtain ⟨oa, c, rfl, hby, hnil⟩ := OwnB.bytes o5
      have P5 : Hid (Prt x w w5 g1 g2 _ (L0 ++ [32] ++ nmC 4 ++ [61])) := P4.out.on k5
      have HBY : Hid (BytesAt w5 oa (nu (Lib.itoa (fl x 4)))) := hby
      have HNI : Hid (oa = none → (nu (Lib.itoa (fl x 4))).length = 0 ∧ c = 0) := hnil.2.1
      have HIL : Hid ((Lib.itoa (fl x 4)).length ≤ 21) := Lib.itoa_length_le _ (by have := HX.out 4; omega) (by have := HX.out 4; omega)
      clear o5 k5 hby hnil P4 y1 yl
      obtain ⟨n5, en5⟩ : ∃ n5, (nu (Lib.itoa (fl x 4))).length = n5 := ⟨_, rfl⟩
      have HEN : Hid ((nu (Lib.itoa (fl x 4))).length = n5) := en5
      rw [en5]
      clear en5
      go_wp2_with (at_builtin; apply Hid.out)
      refine wpList_app rfl (.tmp 41) (.tmp 42) 41 41 rfl _ (.slice oa n5 c) rfl rfl _ (P5.out.row HBY.out HNI.out (by have := HLN.out; have := HIL.out; simp [nmC]; omega) HEN.out) ?_
      rintro v6 w6 p6
      have P6 : Hid (Prt x w w6 g1 g2 v6 (pr x 5)) := by
        rw [show pr x 5 = L0 ++ [32] ++ nmC 4 ++ [61] ++ Lib.itoa (fl x 4) by rw [HL0.out]; simp [pr, pc, fl]]
        exact p6
      clear p6 P5 HBY HNI HIL HEN
      go_wp2_with fail
      go_roundw
      case rel => exact ⟨5, rfl, by omega, P6.out⟩
      case measure => simp [intOf]
    · have hst := own_str P1.out.own
      have KP : Hid (Kept w W) := P1.out.kp
      go_wp2_with fail
      go_ret
      exact ⟨rfl, KP.out⟩
end Go.Proofs.YtolooejcgdknnaaDoor
