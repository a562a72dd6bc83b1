/- What is proved: config's Print; condition: the library's table of powers lies as its text lays it. -/
import Derived.Test.YtolooejcgdknnaaDoorCfC
import Derived.Test.YtolooejcgdknnaaDoorNoAi
import Derived.Test.YtolooejcgdknnaaDoorNoRr
import Derived.Lib.ItoaLen
namespace Go.Proofs.YtolooejcgdknnaaDoor
open Go.RowKit

def nmC : Nat → List UInt8
  | 0 => [98, 117, 100, 103, 101, 116]
  | 1 => [102, 97, 110]
  | 2 => [115, 116, 97, 116, 101]
  | 3 => [101, 112, 115]
  | _ => [108, 105, 109, 105, 116]
def fl (x : Cg) : Nat → Int
  | 0 => x.a
  | 1 => x.b
  | 2 => x.c
  | 3 => x.d
  | _ => x.e
/-- One setting's text. -/
def pc (x : Cg) (k : Nat) : List UInt8 := nmC k ++ [61] ++ Lib.itoa (fl x k)
/-- The text of the first settings. -/
def pr (x : Cg) : Nat → List UInt8
  | 0 => []
  | k + 1 => pr x k ++ (if k = 0 then [] else [32]) ++ pc x k
def printC (x : Cg) : List UInt8 × Int := if chk x ≠ 0 then ([], chk x) else (pr x 5, 0)
theorem chk_ok {x : Cg} (h : chk x = 0) : (1200 ≤ x.a ∧ x.a ≤ 16777216) ∧ (2 ≤ x.b ∧ x.b ≤ 64) ∧ (0 ≤ x.c ∧ x.c ≤ 1048576) ∧ (0 ≤ x.d ∧ x.d ≤ 1099511627776) ∧ (0 ≤ x.e ∧ x.e ≤ 10000) := by
  unfold chk at h
  repeat' (split at h)
  all_goals first | omega | skip
theorem fl_bd {x : Cg} (h : chk x = 0) (k : Nat) : 0 ≤ fl x k ∧ fl x k ≤ 1099511627776 := by
  obtain ⟨h1, h2, h3, h4, h5⟩ := chk_ok h
  unfold fl
  split <;> omega
theorem itoa_len {i : Int} (h0 : 0 ≤ i) (h1 : i ≤ 1099511627776) : (Lib.itoa i).length ≤ 21 := Lib.itoa_length_le i (by omega) (by omega)
theorem pr_len {x : Cg} (h : chk x = 0) : ∀ k, k ≤ 5 → (pr x k).length ≤ 40 * k
  | 0, _ => Nat.le_refl _
  | k + 1, hk => by
    have ih := pr_len h k (by omega)
    obtain ⟨h0, h1⟩ := fl_bd h k
    have h2 := itoa_len h0 h1
    have h3 : (nmC k).length ≤ 6 := by
      unfold nmC
      split <;> decide
    have h4 : (if k = 0 then ([] : List UInt8) else [32]).length ≤ 1 := by split <;> simp
    simp only [pr, pc, List.length_append, List.length_cons, List.length_nil]
    omega

theorem Oth.blk {base : Nat} {w w' : World} (h : Oth base w w') {k : Nat} {c : Array Value} {T : TypeId} (hk : w.heap[k]? = some (.cells c T (0, 0))) (hT : T ≠ 5) : w'.heap[k]? = some (.cells c T (0, 0)) := h.2 k _ hk (fun c2 fz e => by simp only [Obj.cells.injEq] at e; exact hT e.2.1)
/-- What stands while a text is written. -/
structure Prn (x : Cg) (w W : World) (g : Nat) (v : Value) (l : List UInt8) : Prop where
  own : OwnB w.heap.size W v (nu l)
  kp : Kept w W
  box : W.heap[g]? = some (.cells #[.int .i64 x.a, .int .i64 x.b, .int .i64 x.c, .int .i64 x.d, .int .i64 x.e] 43 (0, 0))
theorem Prn.on {x : Cg} {w W W' : World} {g : Nat} {v : Value} {l : List UInt8} (h : Prn x w W g v l) (k : Kept W W') : Prn x w W' g v l := ⟨h.own.kept k (fun _ _ e => e), h.kp.trans' k, (k.block _ (lt_of_heap h.box) (fun e => e)).trans h.box⟩
theorem Prn.app {x : Cg} {w W : World} {g : Nat} {v : Value} {l : List UInt8} (h : Prn x w W g v l) (m : List UInt8) (hl : l.length + m.length ≤ 1000) (ty : TypeId) : ∃ v' w', (Builtin.append_ #[41, 9] ty #[v, tx m]).run Tryd.prog W = .ok v' w' ∧ Prn x w w' g v' (l ++ m) ∧ Oth w.heap.size W w' := by
  obtain ⟨v', w', h1, h2, h3⟩ := app_txO m h.own (by rw [nu_len]; omega) h.kp.size ty
  exact ⟨v', w', h1, ⟨by rw [nu_app]; exact h2, Same.trans h.kp h3.1 (fun i hi e => by omega), h3.blk h.box (by decide)⟩, h3⟩
theorem Prn.num {x : Cg} {w W : World} {g : Nat} {v : Value} {l : List UInt8} (h : Prn x w W g v l) (i : Int) (h0 : 0 ≤ i) (h1 : i ≤ 1099511627776) (hl : l.length ≤ 1000) (ht : Tab w.heap.size w) : Calls Tryd.prog 19 #[v, .int .i64 i, .int .i64 10] W fun e w' => ∃ v', e = .returned v' ∧ Prn x w w' g v' (l ++ Lib.itoa i) := by
  refine Calls.mono (appInt_any i (by omega) (by omega) h.own (by rw [nu_len]; omega) h.kp.size (ht.on ((Kept.to h.kp _).below (Nat.le_refl _) (fun _ e => e)))) ?_
  rintro e w' ⟨v', rfl, h2, h3⟩
  exact ⟨v', rfl, by rw [nu_app]; exact h2, Same.trans h.kp h3.1 (fun i hi e => by omega), h3.blk h.box (by decide)⟩
set_option maxRecDepth 100000 in
set_option maxHeartbeats 3200000 in
theorem print_cf (x : Cg) (w : World) (ht : Tab w.heap.size w) : Calls Tryd.prog 10 #[.agg #[.int .i64 x.a, .int .i64 x.b, .int .i64 x.c, .int .i64 x.d, .int .i64 x.e]] w fun r w' => r = .returned (.tuple #[tx (printC x).1, .int .i64 (printC x).2]) ∧ Kept w w' := by
  have HS : Hid (∀ w, _) := settings_o
  have HN : Hid (∀ w, _) := numbersOf_any x.a x.b x.c x.d x.e
  have HC : Hid (∀ w, _) := check_cf x
  have HT : Hid (Tab w.heap.size w) := ht
  clear ht
  go_enter Tryd.func10, Tryd.ntmps10
  go_wp2_with fail
  refine Calls.mono (HC.out _) ?_
  rintro r w1 ⟨rfl, k1⟩
  have K1 : Hid (Kept w w1) := ((Same.refl _ w).alloc _).trans' k1
  have B1 : Hid (w1.heap[w.heap.size]? = some (.cells #[.int .i64 x.a, .int .i64 x.b, .int .i64 x.c, .int .i64 x.d, .int .i64 x.e] 23 (0, 0))) := (k1.block _ (by simp) (fun e => e)).trans (heap_new _ _)
  clear k1
  by_cases hv : chk x = 0
  · have HV : Hid (chk x = 0) := hv
    have R : Hid (printC x = (pr x 5, 0)) := by show _ = _; unfold printC; rw [hv]; rfl
    rw [hv]
    clear hv
    have c0 : w1.cell? ⟨w.heap.size, 0, none⟩ = some (.int .i64 x.a) := cell_of B1.out 0
    have c1 : w1.cell? ⟨w.heap.size, 1, none⟩ = some (.int .i64 x.b) := cell_of B1.out 1
    have c2 : w1.cell? ⟨w.heap.size, 2, none⟩ = some (.int .i64 x.c) := cell_of B1.out 2
    have c3 : w1.cell? ⟨w.heap.size, 3, none⟩ = some (.int .i64 x.d) := cell_of B1.out 3
    have c4 : w1.cell? ⟨w.heap.size, 4, none⟩ = some (.int .i64 x.e) := cell_of B1.out 4
    have hz := lt_of_heap B1.out
    go_wp2_with fail
    refine Calls.mono (HN.out _) ?_
    rintro r w2 ⟨rfl, k2⟩
    have K2 : Hid (Kept w w2) := K1.out.trans' k2
    clear k2 c0 c1 c2 c3 c4 hz B1 K1
    go_upto_region 6 with fail
    have KA : Hid (Kept w (w2.alloc (.cells #[.int .i64 x.a, .int .i64 x.b, .int .i64 x.c, .int .i64 x.d, .int .i64 x.e] 43))) := K2.out.alloc _
    have HB : Hid ((w2.alloc (.cells #[.int .i64 x.a, .int .i64 x.b, .int .i64 x.c, .int .i64 x.d, .int .i64 x.e] 43)).heap[w2.heap.size]? = some (.cells #[.int .i64 x.a, .int .i64 x.b, .int .i64 x.c, .int .i64 x.d, .int .i64 x.e] 43 (0, 0))) := heap_new _ _
    generalize w2.alloc (.cells #[.int .i64 x.a, .int .i64 x.b, .int .i64 x.c, .int .i64 x.d, .int .i64 x.e] 43) = WA at KA HB ⊢
    generalize w2.heap.size = g at HB ⊢
    go_wp2_with fail
    refine Calls.mono (HS.out _) ?_
    rintro r w3 ⟨X, rfl, hX, k3⟩
    have HX : Hid (StgV X) := hX
    have P3 : Hid (Prn x w w3 g (.slice none 0 0) []) := ⟨OwnB.nil _ _, KA.out.trans' k3, (k3.block _ (lt_of_heap HB.out) (fun e => e)).trans HB.out⟩
    clear k3 hX HB KA
    go_wp2_with fail
    go_loopw [5, 17] (fun v i wr => ∃ k : Nat, i = .int .i64 (k : Int) ∧ k ≤ 5 ∧ Prn x w wr g v (pr x k)) (fun _ i _ => 5 - (intOf i).toNat)
    case atStart => exact ⟨0, rfl, by omega, P3.out⟩
    case round =>
      obtain ⟨k, rfl, hk, h1⟩ := hrel
      rename World => W
      have P0 : Hid (Prn x w W g _ (pr x k)) := h1
      clear h1
      have HLN : Hid ((pr x k).length ≤ 40 * k) := pr_len HV.out k hk
      have hc : k = 0 ∨ k = 1 ∨ k = 2 ∨ k = 3 ∨ k = 4 ∨ k = 5 := by omega
      rcases hc with rfl | rfl | rfl | rfl | rfl | rfl
      · have hx : ∀ w, _ := fun w => (stg_idx w X HX.out).1
        have hgW := lt_of_heap P0.out.box
        obtain ⟨L0, eL0⟩ : ∃ L0, L0 = pr x 0 := ⟨_, rfl⟩
        rw [← eL0] at P0 HLN
        have HL0 : Hid (L0 = pr x 0) := eL0
        clear eL0
        go_upto_region 9 with fail
        have P1 : Hid (Prn x w (W.alloc (.cells #[.string ⟨#[98, 117, 100, 103, 101, 116]⟩, .int .i64 1200, .int .i64 16777216, .int .i64 4096, .int .i64 100] 46)) g _ L0) := P0.out.on ((Same.refl _ W).alloc _)
        have X1 : Hid ((W.alloc (.cells #[.string ⟨#[98, 117, 100, 103, 101, 116]⟩, .int .i64 1200, .int .i64 16777216, .int .i64 4096, .int .i64 100] 46)).heap[W.heap.size]? = some (.cells #[.string ⟨#[98, 117, 100, 103, 101, 116]⟩, .int .i64 1200, .int .i64 16777216, .int .i64 4096, .int .i64 100] 46 (0, 0))) := heap_new _ _
        generalize W.alloc (.cells #[.string ⟨#[98, 117, 100, 103, 101, 116]⟩, .int .i64 1200, .int .i64 16777216, .int .i64 4096, .int .i64 100] 46) = W1 at P1 X1 ⊢
        generalize W.heap.size = bx at X1 hgW ⊢
        clear hx P0 hgW
        rw [← List.append_nil L0] at P1
        have y0 : W1.cell? ⟨bx, 0, none⟩ = some (.string ⟨#[98, 117, 100, 103, 101, 116]⟩) := cell_of X1.out 0
        have yl := lt_of_heap X1.out
        go_wp2_with (at_builtin; apply Hid.out)
        refine wpList_app rfl (.tmp 25) (.tmp 27) 41 9 rfl _ (tx (nmC 0)) rfl rfl _ (P1.out.app (nmC 0) (by have := HLN.out; simp [nmC]; omega)) ?_
        rintro v3 w3 ⟨p3, o3⟩
        have P3 : Hid (Prn x w w3 g v3 (L0 ++ [] ++ nmC 0)) := p3
        clear p3 o3 X1 P1 y0 yl
        go_wp2_with (at_builtin; apply Hid.out)
        refine wpList_app rfl (.tmp 29) (.const (.string ⟨#[61]⟩)) 41 9 rfl _ (tx [61]) rfl rfl _ (P3.out.app [61] (by have := HLN.out; simp [nmC]; omega)) ?_
        rintro v4 w4 ⟨p4, o4⟩
        have P4 : Hid (Prn x w w4 g v4 (L0 ++ [] ++ nmC 0 ++ [61])) := p4
        clear p4 o4 P3
        have y1 : w4.cell? ⟨g, 0, none⟩ = some (.int .i64 x.a) := cell_of P4.out.box 0
        have yl := lt_of_heap P4.out.box
        go_wp2_with fail
        refine Calls.mono (P4.out.num x.a (fl_bd HV.out 0).1 (fl_bd HV.out 0).2 (by have := HLN.out; simp [nmC]; omega) HT.out) ?_
        rintro r w5 ⟨v5, rfl, p5⟩
        have P5 : Hid (Prn x w w5 g v5 (pr x 1)) := by
          rw [show pr x 1 = L0 ++ [] ++ nmC 0 ++ [61] ++ Lib.itoa x.a by rw [HL0.out]; simp [pr, pc, fl]]
          exact p5
        clear p5 P4 y1 yl
        go_wp2_with fail
        go_roundw
        case rel => exact ⟨1, rfl, by omega, P5.out⟩
        case measure => simp [intOf]
      · have hx : ∀ w, _ := fun w => (stg_idx w X HX.out).2.1
        have hgW := lt_of_heap P0.out.box
        obtain ⟨L0, eL0⟩ : ∃ L0, L0 = pr x 1 := ⟨_, rfl⟩
        rw [← eL0] at P0 HLN
        have HL0 : Hid (L0 = pr x 1) := eL0
        clear eL0
        go_upto_region 9 with fail
        have P1 : Hid (Prn x w (W.alloc (.cells #[.string ⟨#[102, 97, 110]⟩, .int .i64 2, .int .i64 64, .int .i64 8, .int .i64 110] 46)) g _ L0) := P0.out.on ((Same.refl _ W).alloc _)
        have X1 : Hid ((W.alloc (.cells #[.string ⟨#[102, 97, 110]⟩, .int .i64 2, .int .i64 64, .int .i64 8, .int .i64 110] 46)).heap[W.heap.size]? = some (.cells #[.string ⟨#[102, 97, 110]⟩, .int .i64 2, .int .i64 64, .int .i64 8, .int .i64 110] 46 (0, 0))) := heap_new _ _
        generalize W.alloc (.cells #[.string ⟨#[102, 97, 110]⟩, .int .i64 2, .int .i64 64, .int .i64 8, .int .i64 110] 46) = W1 at P1 X1 ⊢
        generalize W.heap.size = bx at X1 hgW ⊢
        clear hx P0 hgW
        go_wp2_with (at_builtin; apply Hid.out)
        refine wpList_app rfl (.tmp 23) (.const (.string ⟨#[32]⟩)) 41 9 rfl _ (tx [32]) rfl rfl _ (P1.out.app [32] (by have := HLN.out; simp; omega)) ?_
        rintro v2 w2 ⟨p2, o2⟩
        have P2 : Hid (Prn x w w2 g v2 (L0 ++ [32])) := p2
        have X2 : Hid (w2.heap[bx]? = some (.cells #[.string ⟨#[102, 97, 110]⟩, .int .i64 2, .int .i64 64, .int .i64 8, .int .i64 110] 46 (0, 0))) := o2.blk X1.out (by decide)
        clear p2 o2 X1 P1
        have y0 : w2.cell? ⟨bx, 0, none⟩ = some (.string ⟨#[102, 97, 110]⟩) := cell_of X2.out 0
        have yl := lt_of_heap X2.out
        go_wp2_with (at_builtin; apply Hid.out)
        refine wpList_app rfl (.tmp 25) (.tmp 27) 41 9 rfl _ (tx (nmC 1)) rfl rfl _ (P2.out.app (nmC 1) (by have := HLN.out; simp [nmC]; omega)) ?_
        rintro v3 w3 ⟨p3, o3⟩
        have P3 : Hid (Prn x w w3 g v3 (L0 ++ [32] ++ nmC 1)) := p3
        clear p3 o3 X2 P2 y0 yl
        go_wp2_with (at_builtin; apply Hid.out)
        refine wpList_app rfl (.tmp 29) (.const (.string ⟨#[61]⟩)) 41 9 rfl _ (tx [61]) rfl rfl _ (P3.out.app [61] (by have := HLN.out; simp [nmC]; omega)) ?_
        rintro v4 w4 ⟨p4, o4⟩
        have P4 : Hid (Prn x w w4 g v4 (L0 ++ [32] ++ nmC 1 ++ [61])) := p4
        clear p4 o4 P3
        have y1 : w4.cell? ⟨g, 1, none⟩ = some (.int .i64 x.b) := cell_of P4.out.box 1
        have yl := lt_of_heap P4.out.box
        go_wp2_with fail
        refine Calls.mono (P4.out.num x.b (fl_bd HV.out 1).1 (fl_bd HV.out 1).2 (by have := HLN.out; simp [nmC]; omega) HT.out) ?_
        rintro r w5 ⟨v5, rfl, p5⟩
        have P5 : Hid (Prn x w w5 g v5 (pr x 2)) := by
          rw [show pr x 2 = L0 ++ [32] ++ nmC 1 ++ [61] ++ Lib.itoa x.b by rw [HL0.out]; simp [pr, pc, fl]]
          exact p5
        clear p5 P4 y1 yl
        go_wp2_with fail
        go_roundw
        case rel => exact ⟨2, rfl, by omega, P5.out⟩
        case measure => simp [intOf]
      · have hx : ∀ w, _ := fun w => (stg_idx w X HX.out).2.2.1
        have hgW := lt_of_heap P0.out.box
        obtain ⟨L0, eL0⟩ : ∃ L0, L0 = pr x 2 := ⟨_, rfl⟩
        rw [← eL0] at P0 HLN
        have HL0 : Hid (L0 = pr x 2) := eL0
        clear eL0
        go_upto_region 9 with fail
        have P1 : Hid (Prn x w (W.alloc (.cells #[.string ⟨#[115, 116, 97, 116, 101]⟩, .int .i64 0, .int .i64 1048576, .int .i64 1048576, .int .i64 160] 46)) g _ L0) := P0.out.on ((Same.refl _ W).alloc _)
        have X1 : Hid ((W.alloc (.cells #[.string ⟨#[115, 116, 97, 116, 101]⟩, .int .i64 0, .int .i64 1048576, .int .i64 1048576, .int .i64 160] 46)).heap[W.heap.size]? = some (.cells #[.string ⟨#[115, 116, 97, 116, 101]⟩, .int .i64 0, .int .i64 1048576, .int .i64 1048576, .int .i64 160] 46 (0, 0))) := heap_new _ _
        generalize W.alloc (.cells #[.string ⟨#[115, 116, 97, 116, 101]⟩, .int .i64 0, .int .i64 1048576, .int .i64 1048576, .int .i64 160] 46) = W1 at P1 X1 ⊢
        generalize W.heap.size = bx at X1 hgW ⊢
        clear hx P0 hgW
        go_wp2_with (at_builtin; apply Hid.out)
        refine wpList_app rfl (.tmp 23) (.const (.string ⟨#[32]⟩)) 41 9 rfl _ (tx [32]) rfl rfl _ (P1.out.app [32] (by have := HLN.out; simp; omega)) ?_
        rintro v2 w2 ⟨p2, o2⟩
        have P2 : Hid (Prn x w w2 g v2 (L0 ++ [32])) := p2
        have X2 : Hid (w2.heap[bx]? = some (.cells #[.string ⟨#[115, 116, 97, 116, 101]⟩, .int .i64 0, .int .i64 1048576, .int .i64 1048576, .int .i64 160] 46 (0, 0))) := o2.blk X1.out (by decide)
        clear p2 o2 X1 P1
        have y0 : w2.cell? ⟨bx, 0, none⟩ = some (.string ⟨#[115, 116, 97, 116, 101]⟩) := cell_of X2.out 0
        have yl := lt_of_heap X2.out
        go_wp2_with (at_builtin; apply Hid.out)
        refine wpList_app rfl (.tmp 25) (.tmp 27) 41 9 rfl _ (tx (nmC 2)) rfl rfl _ (P2.out.app (nmC 2) (by have := HLN.out; simp [nmC]; omega)) ?_
        rintro v3 w3 ⟨p3, o3⟩
        have P3 : Hid (Prn x w w3 g v3 (L0 ++ [32] ++ nmC 2)) := p3
        clear p3 o3 X2 P2 y0 yl
        go_wp2_with (at_builtin; apply Hid.out)
        refine wpList_app rfl (.tmp 29) (.const (.string ⟨#[61]⟩)) 41 9 rfl _ (tx [61]) rfl rfl _ (P3.out.app [61] (by have := HLN.out; simp [nmC]; omega)) ?_
        rintro v4 w4 ⟨p4, o4⟩
        have P4 : Hid (Prn x w w4 g v4 (L0 ++ [32] ++ nmC 2 ++ [61])) := p4
        clear p4 o4 P3
        have y1 : w4.cell? ⟨g, 2, none⟩ = some (.int .i64 x.c) := cell_of P4.out.box 2
        have yl := lt_of_heap P4.out.box
        go_wp2_with fail
        refine Calls.mono (P4.out.num x.c (fl_bd HV.out 2).1 (fl_bd HV.out 2).2 (by have := HLN.out; simp [nmC]; omega) HT.out) ?_
        rintro r w5 ⟨v5, rfl, p5⟩
        have P5 : Hid (Prn x w w5 g v5 (pr x 3)) := by
          rw [show pr x 3 = L0 ++ [32] ++ nmC 2 ++ [61] ++ Lib.itoa x.c by rw [HL0.out]; simp [pr, pc, fl]]
          exact p5
        clear p5 P4 y1 yl
        go_wp2_with fail
        go_roundw
        case rel => exact ⟨3, rfl, by omega, P5.out⟩
        case measure => simp [intOf]
      · have hx : ∀ w, _ := fun w => (stg_idx w X HX.out).2.2.2.1
        have hgW := lt_of_heap P0.out.box
        obtain ⟨L0, eL0⟩ : ∃ L0, L0 = pr x 3 := ⟨_, rfl⟩
        rw [← eL0] at P0 HLN
        have HL0 : Hid (L0 = pr x 3) := eL0
        clear eL0
        go_upto_region 9 with fail
        have P1 : Hid (Prn x w (W.alloc (.cells #[.string ⟨#[101, 112, 115]⟩, .int .i64 0, .int .i64 1099511627776, .int .i64 0, .int .i64 171] 46)) g _ L0) := P0.out.on ((Same.refl _ W).alloc _)
        have X1 : Hid ((W.alloc (.cells #[.string ⟨#[101, 112, 115]⟩, .int .i64 0, .int .i64 1099511627776, .int .i64 0, .int .i64 171] 46)).heap[W.heap.size]? = some (.cells #[.string ⟨#[101, 112, 115]⟩, .int .i64 0, .int .i64 1099511627776, .int .i64 0, .int .i64 171] 46 (0, 0))) := heap_new _ _
        generalize W.alloc (.cells #[.string ⟨#[101, 112, 115]⟩, .int .i64 0, .int .i64 1099511627776, .int .i64 0, .int .i64 171] 46) = W1 at P1 X1 ⊢
        generalize W.heap.size = bx at X1 hgW ⊢
        clear hx P0 hgW
        go_wp2_with (at_builtin; apply Hid.out)
        refine wpList_app rfl (.tmp 23) (.const (.string ⟨#[32]⟩)) 41 9 rfl _ (tx [32]) rfl rfl _ (P1.out.app [32] (by have := HLN.out; simp; omega)) ?_
        rintro v2 w2 ⟨p2, o2⟩
        have P2 : Hid (Prn x w w2 g v2 (L0 ++ [32])) := p2
        have X2 : Hid (w2.heap[bx]? = some (.cells #[.string ⟨#[101, 112, 115]⟩, .int .i64 0, .int .i64 1099511627776, .int .i64 0, .int .i64 171] 46 (0, 0))) := o2.blk X1.out (by decide)
        clear p2 o2 X1 P1
        have y0 : w2.cell? ⟨bx, 0, none⟩ = some (.string ⟨#[101, 112, 115]⟩) := cell_of X2.out 0
        have yl := lt_of_heap X2.out
        go_wp2_with (at_builtin; apply Hid.out)
        refine wpList_app rfl (.tmp 25) (.tmp 27) 41 9 rfl _ (tx (nmC 3)) rfl rfl _ (P2.out.app (nmC 3) (by have := HLN.out; simp [nmC]; omega)) ?_
        rintro v3 w3 ⟨p3, o3⟩
        have P3 : Hid (Prn x w w3 g v3 (L0 ++ [32] ++ nmC 3)) := p3
        clear p3 o3 X2 P2 y0 yl
        go_wp2_with (at_builtin; apply Hid.out)
        refine wpList_app rfl (.tmp 29) (.const (.string ⟨#[61]⟩)) 41 9 rfl _ (tx [61]) rfl rfl _ (P3.out.app [61] (by have := HLN.out; simp [nmC]; omega)) ?_
        rintro v4 w4 ⟨p4, o4⟩
        have P4 : Hid (Prn x w w4 g v4 (L0 ++ [32] ++ nmC 3 ++ [61])) := p4
        clear p4 o4 P3
        have y1 : w4.cell? ⟨g, 3, none⟩ = some (.int .i64 x.d) := cell_of P4.out.box 3
        have yl := lt_of_heap P4.out.box
        go_wp2_with fail
        refine Calls.mono (P4.out.num x.d (fl_bd HV.out 3).1 (fl_bd HV.out 3).2 (by have := HLN.out; simp [nmC]; omega) HT.out) ?_
        rintro r w5 ⟨v5, rfl, p5⟩
        have P5 : Hid (Prn x w w5 g v5 (pr x 4)) := by
          rw [show pr x 4 = L0 ++ [32] ++ nmC 3 ++ [61] ++ Lib.itoa x.d by rw [HL0.out]; simp [pr, pc, fl]]
          exact p5
        clear p5 P4 y1 yl
        go_wp2_with fail
        go_roundw
        case rel => exact ⟨4, rfl, by omega, P5.out⟩
        case measure => simp [intOf]
      · have hx : ∀ w, _ := fun w => (stg_idx w X HX.out).2.2.2.2
        have hgW := lt_of_heap P0.out.box
        obtain ⟨L0, eL0⟩ : ∃ L0, L0 = pr x 4 := ⟨_, rfl⟩
        rw [← eL0] at P0 HLN
        have HL0 : Hid (L0 = pr x 4) := eL0
        clear eL0
        go_upto_region 9 with fail
        have P1 : Hid (Prn x w (W.alloc (.cells #[.string ⟨#[108, 105, 109, 105, 116]⟩, .int .i64 0, .int .i64 10000, .int .i64 100, .int .i64 180] 46)) g _ L0) := P0.out.on ((Same.refl _ W).alloc _)
        have X1 : Hid ((W.alloc (.cells #[.string ⟨#[108, 105, 109, 105, 116]⟩, .int .i64 0, .int .i64 10000, .int .i64 100, .int .i64 180] 46)).heap[W.heap.size]? = some (.cells #[.string ⟨#[108, 105, 109, 105, 116]⟩, .int .i64 0, .int .i64 10000, .int .i64 100, .int .i64 180] 46 (0, 0))) := heap_new _ _
        generalize W.alloc (.cells #[.string ⟨#[108, 105, 109, 105, 116]⟩, .int .i64 0, .int .i64 10000, .int .i64 100, .int .i64 180] 46) = W1 at P1 X1 ⊢
        generalize W.heap.size = bx at X1 hgW ⊢
        clear hx P0 hgW
        go_wp2_with (at_builtin; apply Hid.out)
        refine wpList_app rfl (.tmp 23) (.const (.string ⟨#[32]⟩)) 41 9 rfl _ (tx [32]) rfl rfl _ (P1.out.app [32] (by have := HLN.out; simp; omega)) ?_
        rintro v2 w2 ⟨p2, o2⟩
        have P2 : Hid (Prn x w w2 g v2 (L0 ++ [32])) := p2
        have X2 : Hid (w2.heap[bx]? = some (.cells #[.string ⟨#[108, 105, 109, 105, 116]⟩, .int .i64 0, .int .i64 10000, .int .i64 100, .int .i64 180] 46 (0, 0))) := o2.blk X1.out (by decide)
        clear p2 o2 X1 P1
        have y0 : w2.cell? ⟨bx, 0, none⟩ = some (.string ⟨#[108, 105, 109, 105, 116]⟩) := cell_of X2.out 0
        have yl := lt_of_heap X2.out
        go_wp2_with (at_builtin; apply Hid.out)
        refine wpList_app rfl (.tmp 25) (.tmp 27) 41 9 rfl _ (tx (nmC 4)) rfl rfl _ (P2.out.app (nmC 4) (by have := HLN.out; simp [nmC]; omega)) ?_
        rintro v3 w3 ⟨p3, o3⟩
        have P3 : Hid (Prn x w w3 g v3 (L0 ++ [32] ++ nmC 4)) := p3
        clear p3 o3 X2 P2 y0 yl
        go_wp2_with (at_builtin; apply Hid.out)
        refine wpList_app rfl (.tmp 29) (.const (.string ⟨#[61]⟩)) 41 9 rfl _ (tx [61]) rfl rfl _ (P3.out.app [61] (by have := HLN.out; simp [nmC]; omega)) ?_
        rintro v4 w4 ⟨p4, o4⟩
        have P4 : Hid (Prn x w w4 g v4 (L0 ++ [32] ++ nmC 4 ++ [61])) := p4
        clear p4 o4 P3
        have y1 : w4.cell? ⟨g, 4, none⟩ = some (.int .i64 x.e) := cell_of P4.out.box 4
        have yl := lt_of_heap P4.out.box
        go_wp2_with fail
        refine Calls.mono (P4.out.num x.e (fl_bd HV.out 4).1 (fl_bd HV.out 4).2 (by have := HLN.out; simp [nmC]; omega) HT.out) ?_
        rintro r w5 ⟨v5, rfl, p5⟩
        have P5 : Hid (Prn x w w5 g v5 (pr x 5)) := by
          rw [show pr x 5 = L0 ++ [32] ++ nmC 4 ++ [61] ++ Lib.itoa x.e by rw [HL0.out]; simp [pr, pc, fl]]
          exact p5
        clear p5 P4 y1 yl
        go_wp2_with fail
        go_roundw
        case rel => exact ⟨5, rfl, by omega, P5.out⟩
        case measure => simp [intOf]
      · have hst := own_str P0.out.own
        have KP : Hid (Kept w W) := P0.out.kp
        go_wp2_with fail
        go_ret2
        rw [R.out]
        exact ⟨rfl, KP.out⟩
  · have R : Hid (printC x = ([], chk x)) := by show _ = _; unfold printC; rw [if_pos hv]
    have hq : (chk x != 0) = true := by simpa using hv
    generalize chk x = Z at hq R hv ⊢
    clear hv
    go_wp2_with fail
    go_ret2
    rw [R.out]
    exact ⟨rfl, K1.out⟩
end Go.Proofs.YtolooejcgdknnaaDoor
