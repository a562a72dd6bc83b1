/- What is proved: DeviceMemory answers true for every two lists of bytes. -/
import Derived.Test.YtaegbchcfnbngaaXMemM
import Derived.Deep.RegionHeld3
import Derived.Deep.DeepCutAuto
import Derived.Deep.RegionLaw
namespace Go.Proofs.Ytaegbchcfnbngaa
open Go.RowKit

set_option maxRecDepth 100000 in
theorem memory_no (oa : Option Addr) (c : Nat) (L : Nat) (ob : Option Addr) (cd D : Nat) (w : World) (h : L < 1 ∨ 16 < L ∨ D < 16) :
    Calls Try.prog 3 #[.slice oa L c, .slice ob D cd] w fun e w' => e = .returned (.bool true) ∧ Kept w w' := by
  have hnot : ∀ (x : Bool) (w : World), (Op.unary .not (.bool x)).run Try.prog w = .ok (.bool (!x)) w := fun _ _ => rfl
  have HA : Hid _ := anchor_any w
  by_cases h0 : (L : Int) < 1
  · have d0 : decide ((L : Int) < 1) = true := decide_eq_true h0
    clear h
    go_enter Try.func3, Try.ntmps3
    go_wp2_with fail
    refine Calls.mono HA.out ?_
    rintro e w1 ⟨rfl, k1⟩
    go_wp2_with fail
    go_ret
    exact ⟨rfl, k1⟩
  · have d0 : decide ((L : Int) < 1) = false := decide_eq_false h0
    by_cases h1 : 16 < (L : Int)
    · have d1 : decide (16 < (L : Int)) = true := decide_eq_true h1
      clear h
      go_enter Try.func3, Try.ntmps3
      go_wp2_with fail
      refine Calls.mono HA.out ?_
      rintro e w1 ⟨rfl, k1⟩
      go_wp2_with fail
      go_ret
      exact ⟨rfl, k1⟩
    · have d1 : decide (16 < (L : Int)) = false := decide_eq_false h1
      have h2 : (D : Int) < 16 := by omega
      have d2 : decide ((D : Int) < 16) = true := decide_eq_true h2
      clear h
      go_enter Try.func3, Try.ntmps3
      go_wp2_with fail
      refine Calls.mono HA.out ?_
      rintro e w1 ⟨rfl, k1⟩
      go_wp2_with fail
      go_ret
      exact ⟨rfl, k1⟩

def x255 (x : Int) : Int := bits BinOp.xor IntKind.u8 x 255
/-- The first k bytes are turned. -/
def turn (k : Nat) (l : List Int) : List Int := (l.take k).map x255 ++ l.drop k
theorem turn_len (k : Nat) (l : List Int) : (turn k l).length = l.length := by simp [turn]; omega
theorem turn_get {k : Nat} {l : List Int} {x : Int} (h : l[k]? = some x) : (turn k l)[k]? = some x := by
  have hk := (List.getElem?_eq_some_iff.1 h).1
  unfold turn
  rw [List.getElem?_append_right (by simp; omega), List.length_map, List.length_take, Nat.min_eq_left (by omega), Nat.sub_self, List.getElem?_drop]
  exact h
theorem turn_next {k : Nat} {l : List Int} {x : Int} (h : l[k]? = some x) : (turn k l).set k (x255 x) = turn (k + 1) l := by
  obtain ⟨hk, ex⟩ := List.getElem?_eq_some_iff.1 h
  have e : ((l.take k).map x255).length = k := by simp; omega
  unfold turn
  rw [List.set_append_right _ _ (by omega), e, Nat.sub_self, List.drop_eq_getElem_cons hk, List.set_cons_zero, List.take_add_one, h]
  simp

def pick7 {α : Type} (a b c d e f g : α) : Nat → α
  | 0 => a
  | 1 => b
  | 2 => c
  | 3 => d
  | 4 => e
  | 5 => f
  | _ => g
/-- What stays while the seven rows are turned. -/
structure St (Z Y : Nat) (w0 wr : World) (p : Pl) (LB : Nat) (l d : List Int) (G C N : Nat → Nat) : Prop where
  dev : DQ Z Y wr p l d 4
  list : ∀ i, i < 7 → wr.cell? ⟨LB, i, none⟩ = some (.slice (some ⟨G i, 0, none⟩) (N i) (C i))
  lb : LB < wr.heap.size
  kept : Kept w0 wr
  yz : Y ≤ wr.heap.size
/-- The seven rows lie apart of all else. -/
structure Ap (Y : Nat) (w0 : World) (LB : Nat) (G : Nat → Nat) : Prop where
  y : ∀ i, i < 7 → Y ≤ G i
  b : ∀ i, i < 7 → G i ≠ LB
  w : ∀ i, i < 7 → w0.heap.size ≤ G i
  o : ∀ i j, i < 7 → j < 7 → i ≠ j → G i ≠ G j
theorem St.by {Z Y : Nat} {w0 wr wr' : World} {p : Pl} {LB : Nat} {l d : List Int} {G C N : Nat → Nat} (h : St Z Y w0 wr p LB l d G C N) (a : Ap Y w0 LB G) {i : Nat} (hi : i < 7) (s : Same (fun k => k = G i) wr wr') : St Z Y w0 wr' p LB l d G C N :=
  ⟨h.dev.kept s (fun k h1 h2 e => by have := a.y i hi; omega),
    fun j hj => (s.cell (p := ⟨LB, j, none⟩) h.lb (fun e => a.b i hi e.symm)).trans (h.list j hj), Nat.lt_of_lt_of_le h.lb s.size, Same.trans h.kept s (fun k hk e => by have := a.w i hi; omega), Nat.le_trans h.yz s.size⟩
theorem St.on {Z Y : Nat} {w0 wr wr' : World} {p : Pl} {LB : Nat} {l d : List Int} {G C N : Nat → Nat} (h : St Z Y w0 wr p LB l d G C N) (s : Kept wr wr') : St Z Y w0 wr' p LB l d G C N :=
  ⟨h.dev.on s, fun j hj => (s.cell (p := ⟨LB, j, none⟩) h.lb (fun h => h)).trans (h.list j hj), Nat.lt_of_lt_of_le h.lb s.size, h.kept.trans' s, Nat.le_trans h.yz s.size⟩

set_option maxRecDepth 100000 in
set_option maxHeartbeats 12800000 in
theorem memory_yes (b1 o1 c : Nat) (l : List Int) (b2 o2 cd : Nat) (ld : List Int) (w : World) (hl : BytesAt w (some ⟨b1, o1, none⟩) l) (hd : BytesAt w (some ⟨b2, o2, none⟩) ld) (h1 : 1 ≤ l.length) (h2 : l.length ≤ 16) (h3 : 16 ≤ ld.length) (h4 : ld.length ≤ cd) :
    Calls Try.prog 3 #[.slice (some ⟨b1, o1, none⟩) l.length c, .slice (some ⟨b2, o2, none⟩) ld.length cd] w fun e w' => e = .returned (.bool true) ∧ Kept w w' := by
  have hnot : ∀ (x : Bool) (w : World), (Op.unary .not (.bool x)).run Try.prog w = .ok (.bool (!x)) w := fun _ _ => rfl
  have HA : Hid _ := anchor_any w
  obtain ⟨d, ed⟩ : ∃ d, d = ld.take 16 := ⟨_, rfl⟩
  have hdl : d.length = 16 := by rw [ed, List.length_take]; omega
  have hdb : BytesAt w (some ⟨b2, o2, none⟩) d := by rw [ed]; exact bytes_take hd 16
  have HL : Hid (∀ W, Kept w W → BytesAt W (some ⟨b1, o1, none⟩) l) := fun W k => hl.kept k (fun _ _ h => h)
  have HD : Hid (∀ W, Kept w W → BytesAt W (some ⟨b2, o2, none⟩) d) := fun W k => hdb.kept k (fun _ _ h => h)
  have CI : Hid (∀ W b, Kept w W → _) := fun W b (k : Kept w W) => clone_own (c := c) b (HL.out W k) h1 (by omega)
  have CB : Hid (∀ W b, Kept w W → _) := fun W b (k : Kept w W) => clone_own (c := cd) b (HD.out W k) (by omega) (by omega)
  obtain ⟨L, eL⟩ : ∃ L, L = l.length := ⟨_, rfl⟩
  obtain ⟨D, eD⟩ : ∃ D, D = ld.length := ⟨_, rfl⟩
  rw [← eL] at CI h1 h2 ⊢
  rw [hdl] at CB
  rw [← eD] at h3 h4 ⊢
  have EL : Hid _ := eL
  have HDL : Hid _ := hdl
  have d0 : decide ((L : Int) < 1) = false := decide_eq_false (by omega)
  have d1 : decide (16 < (L : Int)) = false := decide_eq_false (by omega)
  have d2 : decide ((D : Int) < 16) = false := decide_eq_false (by omega)
  have d0' : ¬ (L : Int) < 1 := by omega
  have d1' : ¬ 16 < (L : Int) := by omega
  have d2' : ¬ (D : Int) < 16 := by omega
  have d3 : (16 : Int) ≤ (cd : Int) := by omega
  have d4 : ¬ cd = 0 := by omega
  clear hl hd hdb eL eD ed hdl
  go_enter Try.func3, Try.ntmps3
  go_wp2_with fail
  refine Calls.mono HA.out ?_
  rintro e w1 ⟨rfl, k1⟩
  have K1 : Hid _ := k1
  clear k1 HA
  go_wp2_with fail
  go_cut [5, 6] (fun s5 s6 wx => ∃ g1 c1 g2 c2, s5 = .slice (some ⟨g1, 0, none⟩) L c1 ∧ s6 = .slice (some ⟨g2, 0, none⟩) 16 c2 ∧ Rw w1.heap.size wx g1 L c1 l ∧ Rw w1.heap.size wx g2 16 c2 d ∧ g1 ≠ g2 ∧ Kept w1 wx)
  case first =>
    have k01 : Kept w w1 := K1.out
    go_region_held3 (fun w' => Kept w w')
      (exact (by (repeat (first | exact k01 | exact Same.refl _ _ | apply Same.alloc | apply Same.drew | refine Same.trans' ?_ kx3 | refine Same.trans' ?_ ky4)); done))
      (first
      | (refine step_app rfl (.tmp 48) (.tmp 49) 22 rfl (.slice (some ⟨_, 0, none⟩) 0 0) (.slice (some ⟨b1, o1, none⟩) L c) rfl rfl _ (CI.out _ _ (by (repeat (first | exact k01 | exact Same.refl _ _ | apply Same.alloc | apply Same.drew | refine Same.trans' ?_ kx3 | refine Same.trans' ?_ ky4)); done)) ?_; rintro v3 w3 ⟨g3, c3, rfl, r3, kx3⟩)
      | (refine step_app rfl (.tmp 51) (.tmp 53) 22 rfl (.slice (some ⟨_, 0, none⟩) 0 0) (.slice (some ⟨b2, o2, none⟩) 16 cd) rfl rfl _ (CB.out _ _ (by (repeat (first | exact k01 | exact Same.refl _ _ | apply Same.alloc | apply Same.drew | refine Same.trans' ?_ kx3 | refine Same.trans' ?_ ky4)); done)) ?_; rintro v4 w4 ⟨g4, c4, rfl, r4, ky4⟩))
    all_goals
      have k34 : Kept w3 w4 := by (repeat (first | exact Same.refl _ _ | apply Same.alloc | apply Same.drew | refine Same.trans' ?_ ky4)); done
      have k13 : Kept w1 w3 := by (repeat (first | exact Same.refl _ _ | apply Same.alloc | apply Same.drew | refine Same.trans' ?_ kx3)); done
      have z3 := Rw.lt r3
      have z4 := Rw.lt r4
      have z13 := k13.size
      have e3 : w1.heap.size ≤ g3 := by simp at z3; omega
      have e4 : w3.heap.size ≤ g4 := by first | omega | (simp at z4; omega)
      have R3 : Hid (Rw w1.heap.size w4 g3 L c3 l) := Rw.rebase (Rw.kept r3 k34 (fun h => h)) e3
      have R4 : Hid (Rw w1.heap.size w4 g4 16 c4 d) := Rw.rebase r4 (by omega)
      have N34 : Hid (g3 ≠ g4) := by show g3 ≠ g4; omega
      have K4 : Hid (Kept w1 w4) := k13.trans' k34
      clear r3 r4 kx3 ky4 k34 k13 z3 z4 z13 e3 e4
      go_wp2_with fail
      go_meet
      exact ⟨g3, c3, g4, c4, rfl, rfl, R3.out, R4.out, N34.out, K4.out⟩
  case rest =>
    obtain ⟨g1, c1, g2, c2, rfl, rfl, ri, rb, hne, kc⟩ := hcut
    have RI : Hid _ := ri
    have RB : Hid _ := rb
    have KC : Hid (Kept w wc) := Same.trans' K1.out kc
    have KC1 : Hid (Kept w1 wc) := kc
    have cap2 := (Rw.len rb).2
    clear ri rb kc CI CB
    obtain ⟨WF, eWF⟩ : ∃ WF, WF = wc.alloc (.cells #[.int .i64 1, .int .i64 0, .int .i64 9, .int .i64 0] 25) := ⟨_, rfl⟩
    have kf : Kept wc WF := by rw [eWF]; exact (Same.refl _ wc).alloc _
    have hfb : WF.heap[wc.heap.size]? = some (.cells #[.int .i64 1, .int .i64 0, .int .i64 9, .int .i64 0] 25 (0, 0)) := by rw [eWF]; exact heap_new wc _
    have hfl : FaultsAt WF (some ⟨wc.heap.size, 0, none⟩) [⟨1, 0, 9, 0⟩] := fun i f hf => by
      have hi : i = 0 := by have := (List.getElem?_eq_some_iff.1 hf).1; simpa using this
      subst hi
      simp at hf
      subst hf
      exact ⟨wc.heap.size, 0, rfl, lt_of_heap hfb, (cell_of hfb 0).trans rfl, (cell_of hfb 1).trans rfl, (cell_of hfb 2).trans rfl, (cell_of hfb 3).trans rfl⟩
    have HNW : Hid (Calls Try.prog 5 #[.agg #[.int .i64 16, .int .i64 2], .slice (some ⟨g1, 0, none⟩) L c1, .slice (some ⟨g2, 0, none⟩) 16 c2, .slice (some ⟨wc.heap.size, 0, none⟩) 1 1] WF fun e w' => ∃ p, e = .returned (.tuple #[.pointer (some ⟨p.db, 0, none⟩), .int .i64 0]) ∧ Dv w' (M.made 16 2 l d [⟨1, 0, 9, 0⟩]) p ∧ (∀ k, Foot (M.made 16 2 l d [⟨1, 0, 9, 0⟩]) p k → WF.heap.size ≤ k) ∧ Kept WF w') := by
      have := new_yes 16 2 (some ⟨g1, 0, none⟩) (some ⟨g2, 0, none⟩) (some ⟨wc.heap.size, 0, none⟩) c1 c2 1 l d [⟨1, 0, 9, 0⟩] WF (BytesAt.kept (BytesAt.at_own RI.out) kf (fun _ _ h => h)) (BytesAt.kept (BytesAt.at_own RB.out) kf (fun _ _ h => h)) hfl (fun e => by cases e) (fun e => by cases e) (chk_mem l d (by rw [← EL.out]; exact h2) HDL.out)
      rw [← EL.out, HDL.out] at this
      exact this
    have HF0 : Hid _ := hfb
    have KF : Hid _ := kf
    rw [eWF] at HNW KF HF0
    clear hfl hfb kf eWF
    go_wp2_with fail
    refine Calls.mono HNW.out ?_
    rintro e w5 ⟨p, rfl, dv5, ft5, k5⟩
    obtain ⟨Z, eZ⟩ : ∃ Z, Z = wc.heap.size + 1 := ⟨_, rfl⟩
    have KW5 : Hid (Kept wc w5) := KF.out.trans' k5
    have K5 : Hid (Kept w w5) := KC.out.trans' KW5.out
    have RI5 : Hid (Rw w1.heap.size w5 g1 L c1 l) := Rw.kept RI.out KW5.out (fun h => h)
    have RB5 : Hid (Rw w1.heap.size w5 g2 16 c2 d) := Rw.kept RB.out KW5.out (fun h => h)
    have F5 : Hid (w5.heap[wc.heap.size]? = some (.cells #[.int .i64 1, .int .i64 0, .int .i64 9, .int .i64 0] 25 (0, 0))) := (k5.block _ (lt_of_heap HF0.out) (fun h => h)).trans HF0.out
    have B1 : Hid (w1.heap.size ≤ g1 ∧ g1 < wc.heap.size) := Rw.lt RI.out
    have B2 : Hid (w1.heap.size ≤ g2 ∧ g2 < wc.heap.size) := Rw.lt RB.out
    have FT : Hid (∀ k, Foot (M.made 16 2 l d [⟨1, 0, 9, 0⟩]) p k → Z ≤ k) := fun k hk => by have := ft5 k hk; simp at this; omega
    have HSM1 : Hid (∀ W g cc, BytesAt W (some ⟨g, 0, none⟩) l → Kept w W → Calls Try.prog 6 #[.slice (some ⟨g, 0, none⟩) L cc, .slice (some ⟨b1, o1, none⟩) L c] W fun e w' => e = .returned (.bool true) ∧ w' = W) := fun W g cc hb k => by
      have := same_true W (some ⟨g, 0, none⟩) (some ⟨b1, o1, none⟩) cc c l hb (HL.out W k) (by rw [← EL.out]; omega)
      rwa [← EL.out] at this
    have HSM2 : Hid (∀ W g cc, BytesAt W (some ⟨g, 0, none⟩) d → Kept w W → Calls Try.prog 6 #[.slice (some ⟨g, 0, none⟩) 16 cc, .slice (some ⟨b2, o2, none⟩) 16 cd] W fun e w' => e = .returned (.bool true) ∧ w' = W) := fun W g cc hb k => by
      have := same_true W (some ⟨g, 0, none⟩) (some ⟨b2, o2, none⟩) cc cd d hb (HD.out W k) (by rw [HDL.out]; omega)
      rwa [HDL.out] at this
    have HWR : Hid (Calls Try.prog 7 #[.pointer (some ⟨p.db, 0, none⟩), .int .i64 1, .slice (some ⟨g2, 0, none⟩) 16 c2] w5 fun e w' => e = .returned (.int .i64 0) ∧ DQ Z w5.heap.size w' p l d 0 ∧ Same (Own p) w5 w') :=
      DQ.write dv5 FT.out HDL.out (some ⟨g2, 0, none⟩) c2 (BytesAt.at_own RB5.out) (by rw [HDL.out]; exact cap2) (fun k hk e => by obtain ⟨_, off, e'⟩ := hk; cases e'; have := FT.out p.db (.inl (.inl rfl)); have := B2.out; omega)
    have EZ : Hid _ := eZ
    clear dv5 ft5 k5 eZ HNW KF HF0 RI RB
    go_wp2_with fail
    refine Calls.mono (HSM1.out _ _ _ (BytesAt.at_own RI5.out) K5.out) ?_
    rintro e w6 ⟨rfl, rfl⟩
    go_wp2_with fail
    refine Calls.mono (HSM2.out _ _ _ (BytesAt.at_own RB5.out) K5.out) ?_
    rintro e w7 ⟨rfl, rfl⟩
    go_wp2_with fail
    refine Calls.mono HWR.out ?_
    rintro e w8 ⟨rfl, dq8, s8⟩
    have OB : Hid (∀ k, Own p k → Z ≤ k) := fun k hk => FT.out k (.inl hk)
    have nz : ∀ k, k < wc.heap.size + 1 → ¬ Own p k := fun k hk e => by have := OB.out k e; have := EZ.out; omega
    have K8 : Hid (Kept w w8) := Same.trans K5.out s8 (fun i hi e => by have := OB.out i e; have := EZ.out; have := KC.out.size; omega)
    have RI8 : Hid (Rw w1.heap.size w8 g1 L c1 l) := Rw.kept RI5.out s8 (nz g1 (by have := B1.out; omega))
    have RB8 : Hid (Rw w1.heap.size w8 g2 16 c2 d) := Rw.kept RB5.out s8 (nz g2 (by have := B2.out; omega))
    have F8 := (s8.block _ (lt_of_heap F5.out) (nz _ (by omega))).trans F5.out
    have f81 : w8.cell? ⟨wc.heap.size, 2, none⟩ = some (.int .i64 9) := (cell_of F8 2).trans rfl
    have f82 : w8.frozen? ⟨wc.heap.size, 2, none⟩ = false := frozen_of F8 2
    have Z8 : Hid (w7.heap.size ≤ w8.heap.size ∧ wc.heap.size < w7.heap.size) := ⟨s8.size, lt_of_heap F5.out⟩
    have D8 : Hid _ := dq8
    clear dq8 s8 nz F8 RI5 RB5
    go_wp2_with fail
    refine Calls.mono (HSM2.out _ _ _ (BytesAt.at_own RB8.out) K8.out) ?_
    rintro e w9 ⟨rfl, rfl⟩
    go_wp2_with fail
    obtain ⟨Y, D9, HY⟩ : ∃ Y, Hid (DQ Z Y w9 p l d 0) ∧ Hid (Y ≤ w9.heap.size ∧ Z ≤ Y) := ⟨_, D8.out, by have := Z8.out; exact this.1, by have := Z8.out; have := EZ.out; omega⟩
    have sF : Same (fun k => k = wc.heap.size) w9 (w9.setCell ⟨wc.heap.size, 2, none⟩ (.int .i64 1)) := Same.setCell (S := fun k => k = wc.heap.size) (Same.refl _ w9) _ (.inr rfl) _
    have D10 : Hid (DQ Z Y (w9.setCell ⟨wc.heap.size, 2, none⟩ (.int .i64 1)) p l d 0) := DQ.kept D9.out sF (fun k h1 h2 e => by have := EZ.out; omega)
    have RI10 : Hid (Rw w1.heap.size (w9.setCell ⟨wc.heap.size, 2, none⟩ (.int .i64 1)) g1 L c1 l) := Rw.kept RI8.out sF (fun e => by have := B1.out; omega)
    have RB10 : Hid (Rw w1.heap.size (w9.setCell ⟨wc.heap.size, 2, none⟩ (.int .i64 1)) g2 16 c2 d) := Rw.kept RB8.out sF (fun e => by have := B2.out; omega)
    have K10 : Hid (Kept w (w9.setCell ⟨wc.heap.size, 2, none⟩ (.int .i64 1))) := Same.trans K8.out sF (fun i hi e => by have := KC.out.size; omega)
    have HB12 : Hid (w.heap.size ≤ g1 ∧ g1 < Z ∧ w.heap.size ≤ g2 ∧ g2 < Z) := by
      have := B1.out
      have := B2.out
      have := K1.out.size
      have := EZ.out
      exact ⟨by omega, by omega, by omega, by omega⟩
    have HYS : Hid (Y ≤ (w9.setCell ⟨wc.heap.size, 2, none⟩ (.int .i64 1)).heap.size) := Nat.le_trans HY.out.1 sF.size
    clear sF D8 D9 RI8 RB8 f81 f82 F5 HWR KW5 FT OB
    generalize w9.setCell ⟨wc.heap.size, 2, none⟩ (.int .i64 1) = W10 at D10 RI10 RB10 K10 HYS ⊢
    go_loopw [100] (fun i wr => ∃ j : Nat, j ≤ L ∧ i = .int .i64 j ∧ Rw w1.heap.size wr g1 L c1 (turn j l) ∧ Same (fun k => k = g1) W10 wr) (fun i _ => L - (intOf i).toNat)
    case atStart => exact ⟨0, Nat.zero_le _, rfl, by simpa [turn] using RI10.out, Same.refl _ _⟩
    case round =>
      obtain ⟨j, hj, rfl, hr, hs⟩ := hrel
      by_cases hlt : j < L
      · have c1' : decide ((j : Int) < (L : Int)) = true := decide_eq_true (by omega)
        have hlt2 : (j : Int) < (L : Int) := by omega
        obtain ⟨x, hx⟩ : ∃ x, l[j]? = some x := ⟨_, List.getElem?_eq_getElem (by rw [← EL.out]; exact hlt)⟩
        obtain ⟨b', off', e', -, q0⟩ := BytesAt.at_own hr j x (turn_get hx)
        cases e'
        rw [Nat.zero_add] at q0
        obtain ⟨oo, f1, hbg⟩ := OwnB.set hr (i := j) (by rw [turn_len, ← EL.out]; exact hlt) (x255 x)
        rw [turn_next hx] at oo
        have O1 : Hid _ := oo
        have S1 : Hid (Same (fun k => k = g1) W10 (wr.setCell ⟨g1, j, none⟩ (.int .u8 (x255 x)))) := hs.setCell _ (.inr rfl) _
        unfold x255 at O1 S1
        clear hr hs hx oo
        go_wp2_with fail
        go_roundw
        case rel => exact ⟨j + 1, hlt, by simp, O1.out, S1.out⟩
        case measure => simp only [intOf]; omega
      · have c1' : decide ((j : Int) < (L : Int)) = false := decide_eq_false (by omega)
        have hb12 := HB12.out
        have D11 : Hid (DQ Z Y wr p l d 0) := DQ.kept D10.out hs (fun k h1 h2 e => by omega)
        have RB11 : Hid (Rw w1.heap.size wr g2 16 c2 d) := Rw.kept RB10.out hs (fun e => hne e.symm)
        have K11 : Hid (Kept w wr) := Same.trans K10.out hs (fun i hi e => by omega)
        have HYS2 : Hid (Y ≤ wr.heap.size) := Nat.le_trans HYS.out hs.size
        clear hr hs hb12 D10 RI10 RB10 K10 HYS
        rename World => W11
        go_wp2_with fail
        clear hlt hj
        go_loopw [112] (fun i wr => ∃ j : Nat, j ≤ 16 ∧ i = .int .i64 j ∧ Rw w1.heap.size wr g2 16 c2 (turn j d) ∧ Same (fun k => k = g2) W11 wr) (fun i _ => 16 - (intOf i).toNat)
        case atStart => exact ⟨0, Nat.zero_le _, rfl, by simpa [turn] using RB11.out, Same.refl _ _⟩
        case round =>
          clear c1'
          obtain ⟨j, hj, rfl, hr, hs⟩ := hrel
          by_cases hlt : j < 16
          · have c1' : decide ((j : Int) < 16) = true := decide_eq_true (by omega)
            have hlt2 : (j : Int) < 16 := by omega
            obtain ⟨x, hx⟩ : ∃ x, d[j]? = some x := ⟨_, List.getElem?_eq_getElem (by rw [HDL.out]; exact hlt)⟩
            obtain ⟨b', off', e', -, q0⟩ := BytesAt.at_own hr j x (turn_get hx)
            cases e'
            rw [Nat.zero_add] at q0
            obtain ⟨oo, f1, hbg⟩ := OwnB.set hr (i := j) (by rw [turn_len, HDL.out]; exact hlt) (x255 x)
            rw [turn_next hx] at oo
            have O1 : Hid _ := oo
            have S1 : Hid (Same (fun k => k = g2) W11 (wr.setCell ⟨g2, j, none⟩ (.int .u8 (x255 x)))) := hs.setCell _ (.inr rfl) _
            unfold x255 at O1 S1
            clear hr hs hx oo
            go_wp2_with fail
            go_roundw
            case rel => exact ⟨j + 1, hlt, by simp, O1.out, S1.out⟩
            case measure => simp only [intOf]; omega
          · have c1' : decide ((j : Int) < 16) = false := decide_eq_false (by omega)
            have hb12 := HB12.out
            have D12 : Hid (DQ Z Y wr p l d 0) := DQ.kept D11.out hs (fun k h1 h2 e => by omega)
            have K12 : Hid (Kept w wr) := Same.trans K11.out hs (fun i hi e => by omega)
            have Y12 : Hid (Y ≤ wr.heap.size) := Nat.le_trans HYS2.out hs.size
            have hL16 : l.length ≤ 16 := by rw [← EL.out]; exact h2
            have hL1 : 1 ≤ l.length := by rw [← EL.out]; exact h1
            have HWZ : Hid (w.heap.size ≤ Z) := by show w.heap.size ≤ Z; omega
            have C1 : Hid (∀ W r, DQ Z Y W p l d r → r ≤ 7 → _) := fun W r (q : DQ Z Y W p l d r) (hr : r ≤ 7) => q.readIn hr hL1 hL16
            have C2 : Hid (∀ W r b, DQ Z Y W p l d r → r ≤ 7 → b < 2 → _) := fun W r b (q : DQ Z Y W p l d r) (hr : r ≤ 7) (hb : b < 2) => q.readSc hr HDL.out b hb
            have C3 : Hid (∀ W r, DQ Z Y W p l d r → _) := fun W r (q : DQ Z Y W p l d r) => q.image HDL.out
            have C4 : Hid (∀ W r, DQ Z Y W p l d r → _) := fun W r (q : DQ Z Y W p l d r) => q.input hL1
            rw [← EL.out] at C1 C4
            clear hr hs hb12 D11 RB11 K11 HYS2 hL16 hL1
            rename World => W12
            go_wp2_with fail
            clear hlt hj
            refine Calls.mono (C1.out _ _ D12.out (by decide)) ?_
            rintro e w13 ⟨ga, rfl, ra, dn, sn⟩
            have D13 : Hid _ := dn
            have Ba : Hid (Y ≤ ga ∧ W12.heap.size ≤ ga ∧ ga < w13.heap.size) := by have := Rw.lt ra; have := Y12.out; exact ⟨by omega, by omega, by omega⟩
            have Ra13 : Hid (Rw w.heap.size w13 ga L L l) := Rw.rebase ra (by have := Ba.out; have := K12.out.size; omega)
            have K13 : Hid (Kept w w13) := Same.trans K12.out sn (fun i hi e => by have := HWZ.out; omega)
            have Y13 : Hid (Y ≤ w13.heap.size) := Nat.le_trans Y12.out sn.size
            clear sn ra dn 
            go_wp2_with fail
            refine Calls.mono (C1.out _ _ D13.out (by decide)) ?_
            rintro e w14 ⟨gb, rfl, rb, dn, sn⟩
            have D14 : Hid _ := dn
            have Ra14 : Hid (Rw w.heap.size w14 ga L L l) := Rw.kept Ra13.out sn (fun e => by have := Ba.out; omega)
            have Bb : Hid (Y ≤ gb ∧ w13.heap.size ≤ gb ∧ gb < w14.heap.size) := by have := Rw.lt rb; have := Y13.out; exact ⟨by omega, by omega, by omega⟩
            have Rb14 : Hid (Rw w.heap.size w14 gb L L l) := Rw.rebase rb (by have := Bb.out; have := K13.out.size; omega)
            have K14 : Hid (Kept w w14) := Same.trans K13.out sn (fun i hi e => by have := HWZ.out; omega)
            have Y14 : Hid (Y ≤ w14.heap.size) := Nat.le_trans Y13.out sn.size
            clear sn rb dn Ra13
            go_wp2_with fail
            refine Calls.mono (C2.out _ _ 1 D14.out (by decide) (by decide)) ?_
            rintro e w15 ⟨gp, rfl, rp, dn, sn⟩
            have D15 : Hid _ := dn
            have Ra15 : Hid (Rw w.heap.size w15 ga L L l) := Rw.kept Ra14.out sn (fun e => by have := Ba.out; omega)
            have Rb15 : Hid (Rw w.heap.size w15 gb L L l) := Rw.kept Rb14.out sn (fun e => by have := Bb.out; omega)
            have Bp : Hid (Y ≤ gp ∧ w14.heap.size ≤ gp ∧ gp < w15.heap.size) := by have := Rw.lt rp; have := Y14.out; exact ⟨by omega, by omega, by omega⟩
            have Rp15 : Hid (Rw w.heap.size w15 gp 16 16 d) := Rw.rebase rp (by have := Bp.out; have := K14.out.size; omega)
            have K15 : Hid (Kept w w15) := Same.trans K14.out sn (fun i hi e => by have := HWZ.out; omega)
            have Y15 : Hid (Y ≤ w15.heap.size) := Nat.le_trans Y14.out sn.size
            clear sn rp dn Ra14 Rb14
            go_wp2_with fail
            refine Calls.mono (C2.out _ _ 1 D15.out (by decide) (by decide)) ?_
            rintro e w16 ⟨gq, rfl, rq, dn, sn⟩
            have D16 : Hid _ := dn
            have Ra16 : Hid (Rw w.heap.size w16 ga L L l) := Rw.kept Ra15.out sn (fun e => by have := Ba.out; omega)
            have Rb16 : Hid (Rw w.heap.size w16 gb L L l) := Rw.kept Rb15.out sn (fun e => by have := Bb.out; omega)
            have Rp16 : Hid (Rw w.heap.size w16 gp 16 16 d) := Rw.kept Rp15.out sn (fun e => by have := Bp.out; omega)
            have Bq : Hid (Y ≤ gq ∧ w15.heap.size ≤ gq ∧ gq < w16.heap.size) := by have := Rw.lt rq; have := Y15.out; exact ⟨by omega, by omega, by omega⟩
            have Rq16 : Hid (Rw w.heap.size w16 gq 16 16 d) := Rw.rebase rq (by have := Bq.out; have := K15.out.size; omega)
            have K16 : Hid (Kept w w16) := Same.trans K15.out sn (fun i hi e => by have := HWZ.out; omega)
            have Y16 : Hid (Y ≤ w16.heap.size) := Nat.le_trans Y15.out sn.size
            clear sn rq dn Ra15 Rb15 Rp15
            go_wp2_with fail
            refine Calls.mono (C3.out _ _ D16.out) ?_
            rintro e w17 ⟨gx, cx, rfl, rx, sn⟩
            have D17 : Hid _ := DQ.on D16.out sn
            have Ra17 : Hid (Rw w.heap.size w17 ga L L l) := Rw.kept Ra16.out sn (fun h => h)
            have Rb17 : Hid (Rw w.heap.size w17 gb L L l) := Rw.kept Rb16.out sn (fun h => h)
            have Rp17 : Hid (Rw w.heap.size w17 gp 16 16 d) := Rw.kept Rp16.out sn (fun h => h)
            have Rq17 : Hid (Rw w.heap.size w17 gq 16 16 d) := Rw.kept Rq16.out sn (fun h => h)
            have Bx : Hid (Y ≤ gx ∧ w16.heap.size ≤ gx ∧ gx < w17.heap.size) := by have := Rw.lt rx; have := Y16.out; exact ⟨by omega, by omega, by omega⟩
            have Rx17 : Hid (Rw w.heap.size w17 gx 32 cx (d ++ d)) := Rw.rebase rx (by have := Bx.out; have := K16.out.size; omega)
            have K17 : Hid (Kept w w17) := Same.trans' K16.out sn
            have Y17 : Hid (Y ≤ w17.heap.size) := Nat.le_trans Y16.out sn.size
            clear sn rx Ra16 Rb16 Rp16 Rq16
            go_wp2_with fail
            refine Calls.mono (C3.out _ _ D17.out) ?_
            rintro e w18 ⟨gy, cy, rfl, ry, sn⟩
            have D18 : Hid _ := DQ.on D17.out sn
            have Ra18 : Hid (Rw w.heap.size w18 ga L L l) := Rw.kept Ra17.out sn (fun h => h)
            have Rb18 : Hid (Rw w.heap.size w18 gb L L l) := Rw.kept Rb17.out sn (fun h => h)
            have Rp18 : Hid (Rw w.heap.size w18 gp 16 16 d) := Rw.kept Rp17.out sn (fun h => h)
            have Rq18 : Hid (Rw w.heap.size w18 gq 16 16 d) := Rw.kept Rq17.out sn (fun h => h)
            have Rx18 : Hid (Rw w.heap.size w18 gx 32 cx (d ++ d)) := Rw.kept Rx17.out sn (fun h => h)
            have By : Hid (Y ≤ gy ∧ w17.heap.size ≤ gy ∧ gy < w18.heap.size) := by have := Rw.lt ry; have := Y17.out; exact ⟨by omega, by omega, by omega⟩
            have Ry18 : Hid (Rw w.heap.size w18 gy 32 cy (d ++ d)) := Rw.rebase ry (by have := By.out; have := K17.out.size; omega)
            have K18 : Hid (Kept w w18) := Same.trans' K17.out sn
            have Y18 : Hid (Y ≤ w18.heap.size) := Nat.le_trans Y17.out sn.size
            clear sn ry Ra17 Rb17 Rp17 Rq17 Rx17
            go_wp2_with fail
            refine Calls.mono (C4.out _ _ D18.out) ?_
            rintro e w19 ⟨gz, cz, rfl, rz, sn⟩
            have D19 : Hid _ := DQ.on D18.out sn
            have Ra19 : Hid (Rw w.heap.size w19 ga L L l) := Rw.kept Ra18.out sn (fun h => h)
            have Rb19 : Hid (Rw w.heap.size w19 gb L L l) := Rw.kept Rb18.out sn (fun h => h)
            have Rp19 : Hid (Rw w.heap.size w19 gp 16 16 d) := Rw.kept Rp18.out sn (fun h => h)
            have Rq19 : Hid (Rw w.heap.size w19 gq 16 16 d) := Rw.kept Rq18.out sn (fun h => h)
            have Rx19 : Hid (Rw w.heap.size w19 gx 32 cx (d ++ d)) := Rw.kept Rx18.out sn (fun h => h)
            have Ry19 : Hid (Rw w.heap.size w19 gy 32 cy (d ++ d)) := Rw.kept Ry18.out sn (fun h => h)
            have Bz : Hid (Y ≤ gz ∧ w18.heap.size ≤ gz ∧ gz < w19.heap.size) := by have := Rw.lt rz; have := Y18.out; exact ⟨by omega, by omega, by omega⟩
            have Rz19 : Hid (Rw w.heap.size w19 gz L cz l) := Rw.rebase rz (by have := Bz.out; have := K18.out.size; omega)
            have K19 : Hid (Kept w w19) := Same.trans' K18.out sn
            have Y19 : Hid (Y ≤ w19.heap.size) := Nat.le_trans Y18.out sn.size
            clear sn rz Ra18 Rb18 Rp18 Rq18 Rx18 Ry18
            go_wp2_with fail
            have cx32 := (Rw.len Rx19.out).2
            have e16 : (16 : Int) ≤ (cx : Int) := by omega
            have e17 : ¬ cx = 0 := by omega
            have QQ : Hid (∀ n g m cc b o c2, ((m = L ∧ b = b1 ∧ o = o1 ∧ c2 = c ∧ BytesAt w19 (some ⟨g, 0, none⟩) l) ∨ (m = 16 ∧ b = b2 ∧ o = o2 ∧ c2 = cd ∧ BytesAt w19 (some ⟨g, 0, none⟩) d)) → Calls Try.prog 6 #[.slice (some ⟨g, 0, none⟩) m cc, .slice (some ⟨b, o, none⟩) m c2] (w19.drewN n) fun e w' => e = .returned (.bool true) ∧ w' = w19.drewN n) := fun n g m cc b o c2 h => by
              rcases h with ⟨rfl, rfl, rfl, rfl, hb⟩ | ⟨rfl, rfl, rfl, rfl, hb⟩
              · exact HSM1.out _ _ _ (BytesAt.kept hb (Same.drewN (Same.refl (fun _ => False) _) n) (fun _ _ h => h)) (Same.drewN K19.out n)
              · exact HSM2.out _ _ _ (BytesAt.kept hb (Same.drewN (Same.refl (fun _ => False) _) n) (fun _ _ h => h)) (Same.drewN K19.out n)
            have Ea : Hid (BytesAt w19 (some ⟨ga, 0, none⟩) l) := BytesAt.at_own Ra19.out
            have Eb : Hid (BytesAt w19 (some ⟨gb, 0, none⟩) l) := BytesAt.at_own Rb19.out
            have Ez : Hid (BytesAt w19 (some ⟨gz, 0, none⟩) l) := BytesAt.at_own Rz19.out
            have Ep : Hid (BytesAt w19 (some ⟨gp, 0, none⟩) d) := BytesAt.at_own Rp19.out
            have Eq : Hid (BytesAt w19 (some ⟨gq, 0, none⟩) d) := BytesAt.at_own Rq19.out
            have Ex : Hid (BytesAt w19 (some ⟨gx, 0, none⟩) d) := bytes_pre (BytesAt.at_own Rx19.out)
            have n32 : ((32 : Int) != 32) = false := by simp
            go_quiet (first | (go_at_call 6; exact Calls.quiet_of_same (QQ.out _ _ _ _ _ _ _ (by first | exact .inl ⟨rfl, rfl, rfl, rfl, Ea.out⟩ | exact .inl ⟨rfl, rfl, rfl, rfl, Eb.out⟩ | exact .inl ⟨rfl, rfl, rfl, rfl, Ez.out⟩ | exact .inr ⟨rfl, rfl, rfl, rfl, Ep.out⟩ | exact .inr ⟨rfl, rfl, rfl, rfl, Eq.out⟩ | exact .inr ⟨rfl, rfl, rfl, rfl, Ex.out⟩))))
            go_wp2_with fail
            have kd : Kept w19 (w19.drewN nq) := Same.drewN (Same.refl _ _) _
            obtain ⟨W20, eW20⟩ : ∃ W20, W20 = ((w19.drewN nq).alloc (.cells #[.slice (some ⟨ga, 0, none⟩) L L, .slice (some ⟨gb, 0, none⟩) L L, .slice (some ⟨gp, 0, none⟩) 16 16, .slice (some ⟨gq, 0, none⟩) 16 16, .slice (some ⟨gx, 0, none⟩) 32 cx, .slice (some ⟨gy, 0, none⟩) 32 cy, .slice (some ⟨gz, 0, none⟩) L cz] 22)) := ⟨_, rfl⟩
            obtain ⟨LB, eLB⟩ : ∃ LB, LB = (w19.drewN nq).heap.size := ⟨_, rfl⟩
            have k20 : Kept w19 W20 := by rw [eW20]; exact kd.alloc _
            have h20 : W20.heap[LB]? = some (.cells #[.slice (some ⟨ga, 0, none⟩) L L, .slice (some ⟨gb, 0, none⟩) L L, .slice (some ⟨gp, 0, none⟩) 16 16, .slice (some ⟨gq, 0, none⟩) 16 16, .slice (some ⟨gx, 0, none⟩) 32 cx, .slice (some ⟨gy, 0, none⟩) 32 cy, .slice (some ⟨gz, 0, none⟩) L cz] 22 (0, 0)) := by rw [eW20, eLB]; exact heap_new _ _
            have zLB : LB = w19.heap.size := by rw [eLB]; rfl
            obtain ⟨G, C, N, X0, HG⟩ : ∃ (G C N : Nat → Nat) (X0 : Nat → List Int), Hid (St Z Y w W20 p LB l d G C N ∧ Ap Y w LB G ∧ (∀ i, i < 7 → Rw w.heap.size W20 (G i) (N i) (C i) (X0 i)) ∧ (∀ i, i < 7 → N i ≤ 32)) := by
              have four : ∀ i, i < 7 → i = 0 ∨ i = 1 ∨ i = 2 ∨ i = 3 ∨ i = 4 ∨ i = 5 ∨ i = 6 := fun i hi => by omega
              have ba := Ba.out
              have bb := Bb.out
              have bp := Bp.out
              have bq := Bq.out
              have bx := Bx.out
              have by' := By.out
              have bz := Bz.out
              have s12 := K12.out.size
              refine ⟨pick7 ga gb gp gq gx gy gz, pick7 L L 16 16 cx cy cz, pick7 L L 16 16 32 32 L, pick7 l l d d (d ++ d) (d ++ d) l, ⟨DQ.on D19.out k20, fun i hi => ?_, lt_of_heap h20, K19.out.trans' k20, Nat.le_trans Y19.out k20.size⟩, ⟨fun i hi => ?_, fun i hi => ?_, fun i hi => ?_, fun i j hi hj hij => ?_⟩, fun i hi => ?_, fun i hi => ?_⟩
              · rcases four i hi with rfl | rfl | rfl | rfl | rfl | rfl | rfl <;> exact (cell_of h20 _).trans rfl
              · rcases four i hi with rfl | rfl | rfl | rfl | rfl | rfl | rfl <;> simp only [pick7] <;> omega
              · rcases four i hi with rfl | rfl | rfl | rfl | rfl | rfl | rfl <;> simp only [pick7] <;> omega
              · rcases four i hi with rfl | rfl | rfl | rfl | rfl | rfl | rfl <;> simp only [pick7] <;> omega
              · rcases four i hi with rfl | rfl | rfl | rfl | rfl | rfl | rfl <;> rcases four j hj with rfl | rfl | rfl | rfl | rfl | rfl | rfl <;> simp only [pick7] <;> omega
              · rcases four i hi with rfl | rfl | rfl | rfl | rfl | rfl | rfl
                · exact Rw.kept Ra19.out k20 (fun h => h)
                · exact Rw.kept Rb19.out k20 (fun h => h)
                · exact Rw.kept Rp19.out k20 (fun h => h)
                · exact Rw.kept Rq19.out k20 (fun h => h)
                · exact Rw.kept Rx19.out k20 (fun h => h)
                · exact Rw.kept Ry19.out k20 (fun h => h)
                · exact Rw.kept Rz19.out k20 (fun h => h)
              · rcases four i hi with rfl | rfl | rfl | rfl | rfl | rfl | rfl <;> simp only [pick7] <;> omega
            have AP : Hid _ := HG.out.2.1
            have HN4 : Hid _ := HG.out.2.2.2
            have ELB : Hid _ := zLB
            rw [← zLB]
            rw [← eW20]
            clear kd k20 h20 zLB eLB eW20 C3 C4 K1 KC KC1 K5 K8 B1 B2 Z8 EZ HB12 HY D12 K12 Y12 D13 K13 Y13 D14 K14 Y14 D15 K15 Y15 D16 K16 Y16 D17 K17 Y17 D18 K18 Y18 D19 K19 Y19 Ba Bb Bp Bq Bx By Bz Ra19 Rb19 Rp19 Rq19 Rx19 Ry19 Rz19 Ea Eb Ep Eq Ex Ez QQ
            go_loopw [206] (fun i wr => ∃ (j : Nat) (X : Nat → List Int), j ≤ 7 ∧ i = .int .i64 j ∧ St Z Y w wr p LB l d G C N ∧ (∀ k, k < 7 → Rw w.heap.size wr (G k) (N k) (C k) (X k)) ∧ (∀ k, k < j → X k = List.replicate (N k) ((k : Int) + 1))) (fun i _ => 7 - (intOf i).toNat)
            case atStart => exact ⟨0, X0, by decide, rfl, HG.out.1, HG.out.2.2.1, fun k hk => absurd hk (by omega)⟩
            case round =>
              obtain ⟨j, X, hj, rfl, hst, hrw, hdn⟩ := hrel
              have HST : Hid _ := hst
              have HRW : Hid _ := hrw
              have HDN : Hid _ := hdn
              clear hst hrw hdn
              rename World => V1
              by_cases hlt : j < 7
              · have c1 : decide ((j : Int) < 7) = true := decide_eq_true (by omega)
                have hlt2 : (j : Int) < 7 := by omega
                have q0 := HST.out.list j hlt
                have hm1 : (j : Int) + 1 ≤ 255 := by omega
                obtain ⟨M, eM⟩ : ∃ M : Nat, M = N j := ⟨_, rfl⟩
                have hM : (M : Int) ≤ 32 := by have := HN4.out j hlt; omega
                rw [← eM] at q0
                have EM : Hid _ := eM
                have HLX : Hid ((X j).length = M) := by have := (Rw.len (HRW.out j hlt)).1; show (X j).length = M; omega
                clear eM
                go_wp2_with fail
                go_loopw [213] (fun i wr => ∃ k : Nat, k ≤ M ∧ i = .int .i64 k ∧ Rw w.heap.size wr (G j) M (C j) (mark ((j : Int) + 1) k (X j)) ∧ Same (fun b => b = G j) V1 wr) (fun i _ => M - (intOf i).toNat)
                case atStart => exact ⟨0, Nat.zero_le _, rfl, by rw [mark_zero, EM.out]; exact HRW.out j hlt, Same.refl _ _⟩
                case round =>
                  obtain ⟨k, hk, rfl, hr, hs⟩ := hrel
                  have HRK : Hid _ := hr
                  have HSK : Hid _ := hs
                  by_cases hkl : k < M
                  · have c2 : decide ((k : Int) < (M : Int)) = true := decide_eq_true (by omega)
                    have hkl2 : (k : Int) < (M : Int) := by omega
                    obtain ⟨o1, f1, hbg⟩ := OwnB.set hr (i := k) (by rw [mark_len _ (by rw [HLX.out]; omega), HLX.out]; exact hkl) ((j : Int) + 1)
                    rw [mark_next _ (by rw [HLX.out]; exact hkl)] at o1
                    obtain ⟨y, hy⟩ : ∃ y, (mark ((j : Int) + 1) k (X j))[k]? = some y := ⟨_, List.getElem?_eq_getElem (by rw [mark_len _ (by rw [HLX.out]; omega), HLX.out]; exact hkl)⟩
                    obtain ⟨b', off', e', -, q1⟩ := BytesAt.at_own hr k y hy
                    cases e'
                    rw [Nat.zero_add] at q1
                    have O1 : Hid _ := o1
                    have S1 : Hid (Same (fun b => b = G j) V1 (wr.setCell ⟨G j, k, none⟩ (.int .u8 ((j : Int) + 1)))) := hs.setCell _ (.inr rfl) _
                    clear hr hs o1 hy
                    go_wp2_with fail
                    go_roundw
                    case rel => exact ⟨k + 1, hkl, by simp, O1.out, S1.out⟩
                    case measure => simp only [intOf]; omega
                  · have c2 : decide ((k : Int) < (M : Int)) = false := decide_eq_false (by omega)
                    obtain rfl : M = k := by omega
                    have FIN : Hid (St Z Y w wr p LB l d G C N ∧ (∀ i, i < 7 → Rw w.heap.size wr (G i) (N i) (C i) (if i = j then List.replicate (N j) ((j : Int) + 1) else X i))) := by
                      refine ⟨HST.out.by AP.out hlt hs, fun i hi => ?_⟩
                      by_cases e : i = j
                      · subst e
                        rw [if_pos rfl]
                        have := hr
                        rw [← HLX.out, mark_all, HLX.out, EM.out] at this
                        exact this
                      · rw [if_neg e]
                        exact Rw.kept (HRW.out i hi) hs (fun e2 => AP.out.o i j hi hlt e e2)
                    clear hr hs
                    go_wp2_with fail
                    go_roundw
                    case rel =>
                      refine ⟨j + 1, _, hlt, by simp, FIN.out.1, FIN.out.2, fun i hi => ?_⟩
                      by_cases e : i = j
                      · subst e
                        rw [if_pos rfl]
                      · rw [if_neg e]
                        exact HDN.out i (by omega)
                    case measure => simp only [intOf]; omega
              · have c1 : decide ((j : Int) < 7) = false := decide_eq_false (by omega)
                obtain ⟨rep, erep⟩ : ∃ rep : Nat → List Int, rep = fun k => List.replicate (N k) ((k : Int) + 1) := ⟨_, rfl⟩
                have HRL : Hid (∀ k, (rep k).length = N k) := fun k => by rw [erep]; simp
                have HRG : Hid (∀ k i, i < N k → (rep k)[i]? = some ((k : Int) + 1)) := fun k i hi => by rw [erep]; simp [hi]
                have H4 : Hid (∀ k, k < 7 → Rw w.heap.size V1 (G k) (N k) (C k) (rep k)) := fun k hk => by
                  have := HRW.out k hk
                  rw [HDN.out k (by omega)] at this
                  rw [erep]
                  exact this
                clear erep HRW HDN hlt hj HG
                go_wp2_with fail
                go_loopw [226] (fun i wr => ∃ j : Nat, j ≤ 7 ∧ i = .int .i64 j ∧ St Z Y w wr p LB l d G C N ∧ (∀ k, k < 7 → BytesAt wr (some ⟨G k, 0, none⟩) (rep k)) ∧ (∀ k, k < 7 → j ≤ k → Rw w.heap.size wr (G k) (N k) (C k) (rep k))) (fun i _ => 7 - (intOf i).toNat)
                case atStart => exact ⟨0, by decide, rfl, HST.out, fun k hk => BytesAt.at_own (H4.out k hk), fun k hk _ => H4.out k hk⟩
                case round =>
                  clear H4 HST c1
                  obtain ⟨j, hj, rfl, hst, hby, hrw⟩ := hrel
                  have HST : Hid _ := hst
                  have HRW : Hid _ := hrw
                  have HBA : Hid _ := hby
                  clear hst hrw hby
                  rename World => V2
                  by_cases hlt : j < 7
                  · have c1 : decide ((j : Int) < 7) = true := decide_eq_true (by omega)
                    have hlt2 : (j : Int) < 7 := by omega
                    have q0 := HST.out.list j hlt
                    have hm1 : (100 : Int) + (j : Int) ≤ 255 := by omega
                    obtain ⟨M, eM⟩ : ∃ M : Nat, M = N j := ⟨_, rfl⟩
                    have HM : Hid (M ≤ 32) := by have := HN4.out j hlt; show M ≤ _; omega
                    rw [← eM] at q0
                    have EM : Hid _ := eM
                    have HLM : Hid ((rep j).length = M) := by rw [eM]; exact HRL.out j
                    have HGL : Hid (G j < V2.heap.size) := (Rw.lt (HRW.out j hlt (Nat.le_refl _))).2
                    have HZW : Hid (w.heap.size ≤ V2.heap.size) := HST.out.kept.size
                    clear eM
                    go_wp2_with fail
                    go_loopw [28, 29] (fun v i wr => ∃ (t g cc : Nat), t ≤ 40 ∧ i = .int .i64 t ∧ v = .slice (some ⟨g, 0, none⟩) (M + t) cc ∧ Rw w.heap.size wr g (M + t) cc (rep j ++ List.replicate t (100 + (j : Int))) ∧ BytesAt wr (some ⟨G j, 0, none⟩) (rep j) ∧ (g = G j ∨ V2.heap.size ≤ g) ∧ Same (fun b => b = G j) V2 wr) (fun _ i _ => 40 - (intOf i).toNat)
                    case atStart => exact ⟨0, G j, C j, by decide, rfl, rfl, by rw [List.replicate_zero, List.append_nil, Nat.add_zero, EM.out]; exact HRW.out j hlt (Nat.le_refl _), HBA.out j hlt, .inl rfl, Same.refl _ _⟩
                    case round =>
                      obtain ⟨t, g, cc, ht, rfl, rfl, hr, hb, hg, hs⟩ := hrel
                      have HRK : Hid _ := hr
                      have HBK : Hid _ := hb
                      have HGK : Hid _ := hg
                      have HSK : Hid _ := hs
                      clear hr hb hg hs
                      by_cases htl : t < 40
                      · have c2 : decide ((t : Int) < 40) = true := decide_eq_true (by omega)
                        have htl2 : (t : Int) < 40 := by omega
                        have hxl : (rep j ++ List.replicate t (100 + (j : Int))).length = M + t := by rw [List.length_append, HLM.out, List.length_replicate]
                        have HAP : Hid _ := app_more (100 + (j : Int)) (w := wr) (base := w.heap.size) (g := g) (c := cc) (xs := rep j ++ List.replicate t (100 + (j : Int))) (by rw [hxl]; exact HRK.out) (by rw [hxl]; have := HM.out; omega) (Nat.le_trans HZW.out HSK.out.size)
                        rw [hxl] at HAP
                        clear hxl
                        go_wp2_with (at_builtin; refine wpList_app rfl (.tmp 235) (.tmp 239) 22 rfl _ _ rfl rfl _ HAP.out ?_; rintro v5 w5 ⟨g5, c5, rfl, r5, b5, s5, hg5⟩)
                        go_roundw
                        case rel =>
                          refine ⟨t + 1, g5, c5, htl, by simp, rfl, ?_, ?_, ?_, ?_⟩
                          · rw [List.replicate_succ', ← List.append_assoc]
                            exact r5
                          · rcases HGK.out with e | e
                            · rw [← e]
                              exact bytes_pre b5
                            · exact BytesAt.kept HBK.out s5 (fun k hk e2 => by obtain ⟨_, off, e'⟩ := hk; cases e'; have := HGL.out; omega)
                          · have z := HSK.out.size
                            rcases hg5 with e | e
                            · rw [e]; exact HGK.out
                            · exact .inr (by omega)
                          · exact Same.trans HSK.out s5 (fun i hi e => by
                              rcases HGK.out with e2 | e2
                              · rw [e]; exact e2
                              · omega)
                        case measure => simp only [intOf]; omega
                      · have c2 : decide ((t : Int) < 40) = false := decide_eq_false (by omega)
                        have FIN : Hid (St Z Y w wr p LB l d G C N ∧ (∀ k, k < 7 → BytesAt wr (some ⟨G k, 0, none⟩) (rep k)) ∧ (∀ k, k < 7 → j + 1 ≤ k → Rw w.heap.size wr (G k) (N k) (C k) (rep k))) := by
                          refine ⟨HST.out.by AP.out hlt HSK.out, fun k hk => ?_, fun k hk hkj => ?_⟩
                          · by_cases e : k = j
                            · subst e
                              exact HBK.out
                            · exact BytesAt.kept (HBA.out k hk) HSK.out (fun b hb e2 => by obtain ⟨_, off, e'⟩ := hb; cases e'; exact AP.out.o k j hk hlt e e2)
                          · exact Rw.kept (HRW.out k hk (by omega)) HSK.out (fun e2 => AP.out.o k j hk hlt (by omega) e2)
                        clear HRK HBK HGK HSK
                        go_wp2_with fail
                        go_roundw
                        case rel => exact ⟨j + 1, hlt, by simp, FIN.out.1, FIN.out.2.1, FIN.out.2.2⟩
                        case measure => simp only [intOf]; omega
                  · have c1 : decide ((j : Int) < 7) = false := decide_eq_false (by omega)
                    clear HRW hlt hj
                    go_wp2_with fail
                    go_loopw [244] (fun i wr => ∃ j : Nat, j ≤ 7 ∧ i = .int .i64 j ∧ St Z Y w wr p LB l d G C N ∧ (∀ k, k < 7 → BytesAt wr (some ⟨G k, 0, none⟩) (rep k))) (fun i _ => 7 - (intOf i).toNat)
                    case atStart => exact ⟨0, by decide, rfl, HST.out, HBA.out⟩
                    case round =>
                      clear HST HBA c1
                      obtain ⟨j, hj, rfl, hst, hby⟩ := hrel
                      have HST : Hid _ := hst
                      have HBA : Hid _ := hby
                      clear hst hby
                      rename World => V3
                      by_cases hlt : j < 7
                      · have c1 : decide ((j : Int) < 7) = true := decide_eq_true (by omega)
                        have hlt2 : (j : Int) < 7 := by omega
                        have q0 := HST.out.list j hlt
                        have hm1 : (j : Int) + 1 ≤ 255 := by omega
                        obtain ⟨M, eM⟩ : ∃ M : Nat, M = N j := ⟨_, rfl⟩
                        have hM : (M : Int) ≤ 32 := by have := HN4.out j hlt; omega
                        rw [← eM] at q0
                        have HGT : Hid (∀ i, i < M → (rep j)[i]? = some ((j : Int) + 1)) := fun i hi => HRG.out j i (by omega)
                        clear eM
                        go_wp2_with fail
                        go_loopw [251] (fun i wr => ∃ k : Nat, k ≤ M ∧ i = .int .i64 k ∧ Kept V3 wr) (fun i _ => M - (intOf i).toNat)
                        case atStart => exact ⟨0, Nat.zero_le _, rfl, Same.refl _ _⟩
                        case round =>
                          obtain ⟨k, hk, rfl, ks⟩ := hrel
                          have KS : Hid _ := ks
                          by_cases hkl : k < M
                          · have c2 : decide ((k : Int) < (M : Int)) = true := decide_eq_true (by omega)
                            have hkl2 : (k : Int) < (M : Int) := by omega
                            obtain ⟨b', off', e', -, q1⟩ := BytesAt.kept (HBA.out j hlt) ks (fun _ _ h => h) k _ (HGT.out k hkl)
                            cases e'
                            rw [Nat.zero_add] at q1
                            have hne : ((j : Int) + 1 != (j : Int) + 1) = false := by simp
                            clear ks
                            go_wp2_with fail
                            go_roundw
                            case rel => exact ⟨k + 1, hkl, by simp, KS.out⟩
                            case measure => simp only [intOf]; omega
                          · have c2 : decide ((k : Int) < (M : Int)) = false := decide_eq_false (by omega)
                            clear ks
                            go_wp2_with fail
                            go_roundw
                            case rel => exact ⟨j + 1, hlt, by simp, HST.out.on KS.out, fun i hi => BytesAt.kept (HBA.out i hi) KS.out (fun _ _ h => h)⟩
                            case measure => simp only [intOf]; omega
                      · have c1 : decide ((j : Int) < 7) = false := decide_eq_false (by omega)
                        clear hlt hj
                        go_wp2_with fail
                        refine Calls.mono (C1.out _ _ HST.out.dev (by decide)) ?_
                        rintro e w21 ⟨h21, rfl, r21, d21, s21⟩
                        have D21 : Hid _ := d21
                        have Z21 : Hid (Y ≤ h21 ∧ h21 < w21.heap.size) := by have := Rw.lt r21; have := HST.out.yz; exact ⟨by omega, by omega⟩
                        have E21 : Hid (BytesAt w21 (some ⟨h21, 0, none⟩) l) := BytesAt.at_own r21
                        have K21 : Hid (Kept w w21) := Same.trans HST.out.kept s21 (fun i hi e => by have := HWZ.out; omega)
                        have Y21 : Hid (Y ≤ w21.heap.size) := Nat.le_trans HST.out.yz s21.size
                        clear d21 r21 s21 HBA HST
                        go_wp2_with fail
                        refine Calls.mono (C2.out _ _ 0 D21.out (by decide) (by decide)) ?_
                        rintro e w22 ⟨h22, rfl, r22, d22, s22⟩
                        have D22 : Hid _ := d22
                        have Z22 : Hid (Y ≤ h22 ∧ h22 < w22.heap.size) := by have := Rw.lt r22; have := Y21.out; exact ⟨by omega, by omega⟩
                        have E22 : Hid (BytesAt w22 (some ⟨h21, 0, none⟩) l) := BytesAt.kept E21.out s22 (fun b hb e => by obtain ⟨_, off, e'⟩ := hb; cases e'; have := Z21.out; omega)
                        have F22 : Hid (BytesAt w22 (some ⟨h22, 0, none⟩) d) := BytesAt.at_own r22
                        have K22 : Hid (Kept w w22) := Same.trans K21.out s22 (fun i hi e => by have := HWZ.out; omega)
                        have Y22 : Hid (Y ≤ w22.heap.size) := Nat.le_trans Y21.out s22.size
                        clear d22 r22 s22 D21 K21 Y21 E21
                        go_wp2_with fail
                        refine Calls.mono (C2.out _ _ 1 D22.out (by decide) (by decide)) ?_
                        rintro e w23 ⟨h23, rfl, r23, d23, s23⟩
                        have E23 : Hid (BytesAt w23 (some ⟨h21, 0, none⟩) l) := BytesAt.kept E22.out s23 (fun b hb e => by obtain ⟨_, off, e'⟩ := hb; cases e'; have := Z21.out; omega)
                        have F23 : Hid (BytesAt w23 (some ⟨h22, 0, none⟩) d) := BytesAt.kept F22.out s23 (fun b hb e => by obtain ⟨_, off, e'⟩ := hb; cases e'; have := Z22.out; omega)
                        have G23 : Hid (BytesAt w23 (some ⟨h23, 0, none⟩) d) := BytesAt.at_own r23
                        have K23 : Hid (Kept w w23) := Same.trans K22.out s23 (fun i hi e => by have := HWZ.out; omega)
                        clear d23 r23 s23 D22 K22 Y22 E22 F22
                        go_wp2_with fail
                        refine Calls.mono (HSM1.out _ _ _ E23.out K23.out) ?_
                        rintro e w24 ⟨rfl, rfl⟩
                        go_wp2_with fail
                        refine Calls.mono (HSM2.out _ _ _ F23.out K23.out) ?_
                        rintro e w25 ⟨rfl, rfl⟩
                        go_wp2_with fail
                        refine Calls.mono (HSM2.out _ _ _ G23.out K23.out) ?_
                        rintro e w26 ⟨rfl, rfl⟩
                        go_wp2_with fail
                        go_ret
                        exact ⟨rfl, K23.out⟩
end Go.Proofs.Ytaegbchcfnbngaa
