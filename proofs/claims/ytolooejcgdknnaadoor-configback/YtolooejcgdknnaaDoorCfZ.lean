/- What is proved: the document's Parse of a config's text; condition: the text's length. -/
import Derived.Test.YtolooejcgdknnaaDoorCfT
import Derived.Test.YtolooejcgdknnaaDoorCfY
namespace Go.Proofs.YtolooejcgdknnaaDoor
open Go.RowKit

theorem midc_tx (l : List UInt8) (a b : Nat) (h : a ≤ b) (hb : b ≤ l.length) (w : World) : (Instr.slice 9 (tx l) (some (.int .i64 (a : Int))) (some (.int .i64 (b : Int))) none).run Tryd.prog w = .ok (tx ((l.drop a).take (b - a))) w := by
  rw [run_slice_string w 9 _ .i64 .i64 _ _ Tryd.underlying9 (by omega) (by omega) (by rw [sz]; omega)]
  congr 2
  apply ByteArray.ext
  simp [ByteArray.data_extract]
/-- The function's boxes. -/
structure Rq (w W : World) (g : Nat) (x : Cg) (s : Sn) : Prop where
  out : W.heap[w.heap.size]? = some (.cells (cgA zC) 23 (0, 0))
  box : W.heap[g]? = some (.cells (cgA x) 42 (0, 0))
  seen : W.heap[g + 1]? = some (.cells (snA s) 56 (0, 0))
  lt : w.heap.size < g
  kp : Kept w W
theorem Rq.on {w W W' : World} {g : Nat} {x : Cg} {s : Sn} (h : Rq w W g x s) (k : Kept W W') : Rq w W' g x s :=
  ⟨(k.block _ (lt_of_heap h.out) (fun e => e)).trans h.out, (k.block _ (lt_of_heap h.box) (fun e => e)).trans h.box, (k.block _ (lt_of_heap h.seen) (fun e => e)).trans h.seen, h.lt, h.kp.trans' k⟩
theorem Rq.put {w W : World} {g : Nat} {x : Cg} {s : Sn} (h : Rq w W g x s) {k : Nat} {n : Int} (hx : (cgA x).setIfInBounds k (.int .i64 n) = cgA (x.put k n)) (hs : (snA s).setIfInBounds k (.bool true) = snA (s.on k)) : Rq w ((W.setCell ⟨g + 1, k, none⟩ (.bool true)).setCell ⟨g, k, none⟩ (.int .i64 n)) g (x.put k n) (s.on k) := by
  have s1 : Same (fun i => i = g + 1) W (W.setCell ⟨g + 1, k, none⟩ (.bool true)) := Same.setCell (Same.refl (fun i => i = g + 1) W) _ (.inr rfl) _
  have s2 : Same (fun i => i = g) (W.setCell ⟨g + 1, k, none⟩ (.bool true)) ((W.setCell ⟨g + 1, k, none⟩ (.bool true)).setCell ⟨g, k, none⟩ (.int .i64 n)) := Same.setCell (Same.refl (fun i => i = g) _) _ (.inr rfl) _
  have hl := h.lt
  have b1 : (W.setCell ⟨g + 1, k, none⟩ (.bool true)).heap[w.heap.size]? = _ := (s1.block _ (lt_of_heap h.out) (by omega)).trans h.out
  have b2 : (W.setCell ⟨g + 1, k, none⟩ (.bool true)).heap[g]? = _ := (s1.block _ (lt_of_heap h.box) (by omega)).trans h.box
  have b3 := setCell_at h.seen k (.bool true)
  refine ⟨(s2.block _ (lt_of_heap b1) (by omega)).trans b1, (setCell_at b2 k (.int .i64 n)).trans (by rw [hx]), ((s2.block _ (lt_of_heap b3) (by omega)).trans b3).trans (by rw [hs]), hl, ?_⟩
  exact (h.kp.setCell _ (.inl (by show w.heap.size ≤ g + 1; omega)) _).setCell _ (.inl (by show w.heap.size ≤ g; omega)) _
/-- No blank stands between two places. -/
def Nb (l : List UInt8) (a b : Nat) : Prop := ∀ j, a ≤ j → j < b → l[j]? ≠ some 32
theorem pcs_mid {l : List UInt8} {a b : Nat} (ha : a ≤ b) (hb : b < l.length) (h : Nb l a b) (h32 : l[b]? = some 32) : pcs (l.drop a) = (l.drop a).take (b - a) :: pcs (l.drop (b + 1)) := by
  obtain ⟨h1, h2⟩ := List.getElem?_eq_some_iff.1 h32
  have e : l.drop a = (l.drop a).take (b - a) ++ 32 :: l.drop (b + 1) := by
    have : (l.drop a).drop (b - a) = 32 :: l.drop (b + 1) := by
      rw [List.drop_drop, show a + (b - a) = b by omega, List.drop_eq_getElem_cons h1, h2]
    rw [← this, List.take_append_drop]
  have hn : 32 ∉ (l.drop a).take (b - a) := by
    intro hm
    obtain ⟨i, hi, e2⟩ := List.getElem_of_mem hm
    have hi2 : i < b - a := by simp at hi; omega
    refine h (a + i) (by omega) (by omega) ?_
    rw [List.getElem_take, List.getElem_drop] at e2
    rw [List.getElem?_eq_getElem (by omega), e2]
  conv => lhs; rw [e]
  exact pcs_at hn
theorem pcs_end {l : List UInt8} {a : Nat} (h : Nb l a l.length) : pcs (l.drop a) = [(l.drop a).take (l.length - a)] := by
  rw [List.take_of_length_le (by simp)]
  apply pcs_no
  intro hm
  obtain ⟨i, hi, e2⟩ := List.getElem_of_mem hm
  have hi2 : i < l.length - a := by simpa using hi
  refine h (a + i) (by omega) (by omega) ?_
  rw [List.getElem_drop] at e2
  rw [List.getElem?_eq_getElem (by omega), e2]
def finC (o : Option Cg) : Cg × Int := match o with
  | none => (zC, 230)
  | some x => if chk x ≠ 0 then (zC, chk x) else (x, 0)
/-- What a place in the text stands for. -/
def Stt (l : List UInt8) (Z : Option Cg) (a i : Nat) (x : Cg) (s : Sn) : Prop := a ≤ i ∧ i ≤ l.length + 1 ∧ (i ≤ l.length → Nb l a i ∧ Z = rdP (pcs (l.drop a)) x s) ∧ (i = l.length + 1 → Z = some x)
theorem Stt.skip {l : List UInt8} {Z : Option Cg} {a i : Nat} {x : Cg} {s : Sn} {b : UInt8} (h : Stt l Z a i x s) (hb : l[i]? = some b) (hn : ¬ b = 32) : Stt l Z a (i + 1) x s := by
  obtain ⟨h1, h2, h3, h4⟩ := h
  have hi := (List.getElem?_eq_some_iff.1 hb).1
  obtain ⟨h5, h6⟩ := h3 (by omega)
  refine ⟨by omega, by omega, fun _ => ⟨fun j h7 h8 => ?_, h6⟩, fun h7 => by omega⟩
  by_cases e : j < i
  · exact h5 j h7 e
  · obtain rfl : j = i := by omega
    rw [hb]
    exact fun e => hn (Option.some.inj e)
theorem Stt.piece {l : List UInt8} {Z : Option Cg} {a i : Nat} {x : Cg} {s : Sn} (h : Stt l Z a i x s) (hi : i ≤ l.length) (hb : i = l.length ∨ l[i]? = some 32) : ∃ ps, Z = rdP ((l.drop a).take (i - a) :: ps) x s ∧ ∀ y t, Z = rdP ps y t → Stt l Z (i + 1) (i + 1) y t := by
  obtain ⟨h1, h2, h3, h4⟩ := h
  obtain ⟨h5, h6⟩ := h3 hi
  by_cases e : i = l.length
  · subst e
    refine ⟨[], by rw [h6, pcs_end h5], fun y t hz => ⟨Nat.le_refl _, Nat.le_refl _, fun h7 => by omega, fun _ => hz⟩⟩
  · replace hb := hb.resolve_left e
    refine ⟨pcs (l.drop (i + 1)), by rw [h6, pcs_mid h1 (by omega) h5 hb], fun y t hz => ⟨Nat.le_refl _, by omega, fun h7 => ⟨fun j h8 h9 => by omega, hz⟩, fun h7 => by omega⟩⟩
set_option maxRecDepth 100000 in
set_option maxHeartbeats 6400000 in
theorem rparse_cf (l : List UInt8) (w : World) (hl : l.length ≤ 281474976710656) : Calls Tryd.prog 14 #[tx l] w fun e w' => e = .returned (paV (parseC l)) ∧ Kept w w' := by
  have HU : Hid (∀ w, _) := rusual_any
  have HW : Hid (∀ (p : List UInt8) w, p.length ≤ 281474976710656 → _) := fun p w h => which_any p w h
  have HC : Hid (∀ x w, _) := rcheck_any23
  obtain ⟨Y, eY⟩ : ∃ Y, Y = parseC l := ⟨_, rfl⟩
  obtain ⟨Z, eZ⟩ : ∃ Z, Z = rdC l := ⟨_, rfl⟩
  have HY : Hid (Y = finC Z) := by rw [eY, eZ]; rfl
  have HZ : Hid (Z = rdC l) := eZ
  rw [← eY]
  clear eZ eY
  have HL : Hid (l.length ≤ 281474976710656) := hl
  go_enter Tryd.func14, Tryd.ntmps14
  go_wp2_with fail
  refine Calls.mono (HU.out _) ?_
  rintro e w1 ⟨rfl, k1⟩
  have B1 : Hid (w1.heap[w.heap.size]? = some (.cells (cgA zC) 23 (0, 0))) := (k1.block _ (by simp) (fun e => e)).trans (heap_new _ _)
  have K1 : Hid (Kept w w1) := ((Same.refl _ w).alloc _).trans' k1
  clear k1
  go_upto_region 4 with fail
  have R1 : Hid (Rq w (((w1.alloc (.cells #[.int .i64 4096, .int .i64 8, .int .i64 1048576, .int .i64 0, .int .i64 100] 23)).alloc (.cells #[.int .i64 4096, .int .i64 8, .int .i64 1048576, .int .i64 0, .int .i64 100] 42)).alloc (.cells #[.bool false, .bool false, .bool false, .bool false, .bool false] 56)) (w1.heap.size + 1) usC sn0) := by
    have h1 := heap_new (w1.alloc (.cells #[.int .i64 4096, .int .i64 8, .int .i64 1048576, .int .i64 0, .int .i64 100] 23)) (.cells #[.int .i64 4096, .int .i64 8, .int .i64 1048576, .int .i64 0, .int .i64 100] 42)
    have h2 := heap_new ((w1.alloc (.cells #[.int .i64 4096, .int .i64 8, .int .i64 1048576, .int .i64 0, .int .i64 100] 23)).alloc (.cells #[.int .i64 4096, .int .i64 8, .int .i64 1048576, .int .i64 0, .int .i64 100] 42)) (.cells #[.bool false, .bool false, .bool false, .bool false, .bool false] 56)
    rw [World.size_alloc] at h1
    rw [World.size_alloc, World.size_alloc] at h2
    have hz := lt_of_heap B1.out
    exact ⟨(heap_old _ _ (by simp; omega)).trans ((heap_old _ _ (by simp; omega)).trans ((heap_old _ _ hz).trans B1.out)), (heap_old _ _ (by simp)).trans h1, h2, by omega, ((K1.out.alloc _).alloc _).alloc _⟩
  generalize World.alloc (World.alloc (World.alloc w1 _) _) _ = W2 at R1 ⊢
  generalize w1.heap.size + 1 = g at R1 ⊢
  clear B1 K1
  go_wp2_with fail
  go_loopw [7, 8] (fun a i wr => ∃ (p q : Nat) (x : Cg) (s : Sn), a = .int .i64 (p : Int) ∧ i = .int .i64 (q : Int) ∧ Rq w wr g x s ∧ (0 < l.length → Stt l Z p q x s) ∧ (l.length = 0 → Z = some x)) (fun _ i _ => l.length + 1 - (intOf i).toNat)
  case atStart =>
    refine ⟨0, 0, usC, sn0, rfl, rfl, R1.out, fun h => ⟨Nat.le_refl _, by omega, fun _ => ⟨fun j h1 h2 => by omega, ?_⟩, fun h2 => by omega⟩, fun h => ?_⟩
    · rw [HZ.out]
      unfold rdC
      rw [if_neg (by intro e; subst e; simp at h)]
      rfl
    · rw [HZ.out]
      unfold rdC
      rw [if_pos (List.eq_nil_of_length_eq_zero h)]
  case round =>
    obtain ⟨p, q, x, s, rfl, rfl, h1, h2, h3⟩ := hrel
    rename World => W
    have RQ : Hid (Rq w W g x s) := h1
    have HS : Hid (0 < l.length → Stt l Z p q x s) := h2
    have HE : Hid (l.length = 0 → Z = some x) := h3
    clear h1 h2 h3
    by_cases hrun : q ≤ l.length ∧ 0 < l.length
    · have hq := hrun.1
      have h0 := hrun.2
      have d1 : decide ((q : Int) ≤ (l.length : Int)) = true := decide_eq_true (by omega)
      have d1n : decide (q ≤ l.length) = true := decide_eq_true hq
      have d2 : decide ((0 : Int) < (l.length : Int)) = true := decide_eq_true (by omega)
      have d2n : decide (0 < l.length) = true := decide_eq_true h0
      have ST : Hid (Stt l Z p q x s) := HS.out h0
      clear HS HE hrun
      have hw1 : (q : Int) + 1 ≤ 9223372036854775807 := by omega
      by_cases hbd : q < l.length ∧ l[q]? ≠ some 32
      · obtain ⟨b, hb⟩ : ∃ b, l[q]? = some b := ⟨_, List.getElem?_eq_getElem hbd.1⟩
        have hb32 : ¬ b = 32 := fun e => hbd.2 (by rw [hb, e])
        have hlt := hbd.1
        have d3 : decide ((q : Int) < (l.length : Int)) = true := decide_eq_true (by omega)
        have d3n : decide (q < l.length) = true := decide_eq_true hlt
        have hix : ∀ w, (Instr.index 9 (tx l) (.int .i64 (q : Int))).run Tryd.prog w = _ := idx_tx hb
        have q32 : ((b.toNat : Int) != 32) = true := by
          have := (eq_b b 32).trans (beq_eq_false_iff_ne.2 hb32)
          rw [bne, show (32 : Int) = ((32 : UInt8).toNat : Int) from rfl, this]
          rfl
        have ST2 : Hid (Stt l Z p (q + 1) x s) := ST.out.skip hb hb32
        clear hb hb32 hbd ST
        go_wp2_with fail
        go_roundw
        case rel => exact ⟨p, q + 1, x, s, rfl, by simp, RQ.out, fun _ => ST2.out, fun h => by omega⟩
        case measure => simp only [intOf]; omega
      · have hor : q = l.length ∨ l[q]? = some 32 := by
          by_cases e : q = l.length
          · exact .inl e
          · exact .inr (Classical.not_not.1 fun e2 => hbd ⟨by omega, e2⟩)
        obtain ⟨ps, hz1, hz2⟩ := ST.out.piece hq hor
        have HZ1 : Hid _ := hz1
        have HZ2 : Hid (∀ y t, Z = rdP ps y t → Stt l Z (q + 1) (q + 1) y t) := hz2
        have hpq : p ≤ q := ST.out.1
        have hpi : (p : Int) ≤ (q : Int) := by omega
        have hmd : ∀ w, _ := midc_tx l p q hpq hq
        have HPL : Hid (((l.drop p).take (q - p)).length ≤ 281474976710656) := by show _ ≤ _; simp; omega
        clear hz1 hz2 ST hbd
        have HO : Hid (q = l.length ∨ l[q]? = some 32) := hor
        clear hor
        generalize (l.drop p).take (q - p) = pc at *
        have hlt : (q = l.length ∧ decide ((q : Int) < (l.length : Int)) = false) ∨ (q < l.length ∧ decide ((q : Int) < (l.length : Int)) = true ∧ ∀ w, (Instr.index 9 (tx l) (.int .i64 (q : Int))).run Tryd.prog w = .ok (.int .u8 32) w) := by
          rcases HO.out with e | e
          · exact .inl ⟨e, decide_eq_false (by omega)⟩
          · by_cases e2 : q = l.length
            · exact .inl ⟨e2, decide_eq_false (by omega)⟩
            · exact .inr ⟨by omega, decide_eq_true (by omega), idx_tx e⟩
        clear HO
        rcases hlt with ⟨e2, d3⟩ | ⟨e2, d3, hix⟩
        · have d3n : decide (q < l.length) = false := decide_eq_false (by omega)
          have HQL : Hid (q = l.length) := e2
          clear e2
          go_wp2_with fail
          refine Calls.mono (HW.out _ _ HPL.out) ?_
          rintro r w3 ⟨rfl, k3⟩
          have RQ3 : Hid (Rq w w3 g x s) := RQ.out.on k3
          clear k3 RQ hmd
          cases ho : stg pc with
          | none =>
            have R : Hid (Y = (zC, 230)) := by
              show _ = _
              rw [HY.out, HZ1.out]
              simp [rdP, ho, finC]
            simp only [whV]
            clear ho
            have d0 : w3.cell? ⟨w.heap.size, 0, none⟩ = some (.int .i64 0) := cell_of RQ3.out.out 0
            have d1 : w3.cell? ⟨w.heap.size, 1, none⟩ = some (.int .i64 0) := cell_of RQ3.out.out 1
            have d2 : w3.cell? ⟨w.heap.size, 2, none⟩ = some (.int .i64 0) := cell_of RQ3.out.out 2
            have d3 : w3.cell? ⟨w.heap.size, 3, none⟩ = some (.int .i64 0) := cell_of RQ3.out.out 3
            have d4 : w3.cell? ⟨w.heap.size, 4, none⟩ = some (.int .i64 0) := cell_of RQ3.out.out 4
            have f0 := frozen_of RQ3.out.out 0
            have f1 := frozen_of RQ3.out.out 1
            have f2 := frozen_of RQ3.out.out 2
            have f3 := frozen_of RQ3.out.out 3
            have f4 := frozen_of RQ3.out.out 4
            have zl := lt_of_heap RQ3.out.out
            clear HZ1 HZ2
            go_wp2_with fail
            rw [R.out]
            refine bodyPost_ret (results_ctN rfl rfl (v := .agg #[.int .i64 0, .int .i64 0, .int .i64 0, .int .i64 0, .int .i64 0]) ?_) rfl ⟨rfl, kept5 RQ3.out.kp _ _ _ _ _⟩
            go_simp
          | some kn =>
            obtain ⟨k, n⟩ := kn
            have hk5 := (stg_lt ho).1
            have HZ3 : Hid (Z = if s.at k = true then none else rdP ps (x.put k n) (s.on k)) := by
              show _ = _
              rw [HZ1.out]
              simp [rdP, ho]
            simp only [whV]
            clear ho
            have hc : k = 0 ∨ k = 1 ∨ k = 2 ∨ k = 3 ∨ k = 4 := by omega
            clear hk5
            rcases hc with rfl | rfl | rfl | rfl | rfl
            · have e0 : w3.cell? ⟨g + 1, 0, none⟩ = some (.bool s.a) := cell_of RQ3.out.seen 0
              have el := lt_of_heap RQ3.out.seen
              have bl := lt_of_heap RQ3.out.box
              have HV : Hid (s.at 0 = s.a) := rfl
              cases hs : s.a
              · have c0 : w3.cell? ⟨g, 0, none⟩ = some (.int .i64 x.a) := cell_of RQ3.out.box 0
                have f0 := frozen_of RQ3.out.box 0
                have f1 := frozen_of RQ3.out.seen 0
                have HP : Hid _ := RQ3.out.put (k := 0) (n := (n : Int)) rfl rfl
                rw [hs] at e0 HV
                have ST2 : Hid (Stt l Z (q + 1) (q + 1) (x.put 0 n) (s.on 0)) := HZ2.out _ _ (by rw [HZ3.out, HV.out]; rfl)
                clear HZ3 hs HZ2 HZ1
                go_wp2_with fail
                go_roundw
                case rel => exact ⟨q + 1, q + 1, _, _, by simp, by simp, HP.out, fun _ => ST2.out, fun h => by omega⟩
                case measure => simp only [intOf]; omega
              · have R : Hid (Y = (zC, 230)) := by
                  show _ = _
                  rw [HY.out, HZ3.out, HV.out, hs]
                  rfl
                rw [hs] at e0
                clear HZ3 hs HV
                have d0 : w3.cell? ⟨w.heap.size, 0, none⟩ = some (.int .i64 0) := cell_of RQ3.out.out 0
                have d1 : w3.cell? ⟨w.heap.size, 1, none⟩ = some (.int .i64 0) := cell_of RQ3.out.out 1
                have d2 : w3.cell? ⟨w.heap.size, 2, none⟩ = some (.int .i64 0) := cell_of RQ3.out.out 2
                have d3 : w3.cell? ⟨w.heap.size, 3, none⟩ = some (.int .i64 0) := cell_of RQ3.out.out 3
                have d4 : w3.cell? ⟨w.heap.size, 4, none⟩ = some (.int .i64 0) := cell_of RQ3.out.out 4
                have f0 := frozen_of RQ3.out.out 0
                have f1 := frozen_of RQ3.out.out 1
                have f2 := frozen_of RQ3.out.out 2
                have f3 := frozen_of RQ3.out.out 3
                have f4 := frozen_of RQ3.out.out 4
                have zl := lt_of_heap RQ3.out.out
                clear HZ1 HZ2
                go_wp2_with fail
                rw [R.out]
                refine bodyPost_ret (results_ctN rfl rfl (v := .agg #[.int .i64 0, .int .i64 0, .int .i64 0, .int .i64 0, .int .i64 0]) ?_) rfl ⟨rfl, kept5 RQ3.out.kp _ _ _ _ _⟩
                go_simp
            · have e0 : w3.cell? ⟨g + 1, 1, none⟩ = some (.bool s.b) := cell_of RQ3.out.seen 1
              have el := lt_of_heap RQ3.out.seen
              have bl := lt_of_heap RQ3.out.box
              have HV : Hid (s.at 1 = s.b) := rfl
              cases hs : s.b
              · have c0 : w3.cell? ⟨g, 1, none⟩ = some (.int .i64 x.b) := cell_of RQ3.out.box 1
                have f0 := frozen_of RQ3.out.box 1
                have f1 := frozen_of RQ3.out.seen 1
                have HP : Hid _ := RQ3.out.put (k := 1) (n := (n : Int)) rfl rfl
                rw [hs] at e0 HV
                have ST2 : Hid (Stt l Z (q + 1) (q + 1) (x.put 1 n) (s.on 1)) := HZ2.out _ _ (by rw [HZ3.out, HV.out]; rfl)
                clear HZ3 hs HZ2 HZ1
                go_wp2_with fail
                go_roundw
                case rel => exact ⟨q + 1, q + 1, _, _, by simp, by simp, HP.out, fun _ => ST2.out, fun h => by omega⟩
                case measure => simp only [intOf]; omega
              · have R : Hid (Y = (zC, 230)) := by
                  show _ = _
                  rw [HY.out, HZ3.out, HV.out, hs]
                  rfl
                rw [hs] at e0
                clear HZ3 hs HV
                have d0 : w3.cell? ⟨w.heap.size, 0, none⟩ = some (.int .i64 0) := cell_of RQ3.out.out 0
                have d1 : w3.cell? ⟨w.heap.size, 1, none⟩ = some (.int .i64 0) := cell_of RQ3.out.out 1
                have d2 : w3.cell? ⟨w.heap.size, 2, none⟩ = some (.int .i64 0) := cell_of RQ3.out.out 2
                have d3 : w3.cell? ⟨w.heap.size, 3, none⟩ = some (.int .i64 0) := cell_of RQ3.out.out 3
                have d4 : w3.cell? ⟨w.heap.size, 4, none⟩ = some (.int .i64 0) := cell_of RQ3.out.out 4
                have f0 := frozen_of RQ3.out.out 0
                have f1 := frozen_of RQ3.out.out 1
                have f2 := frozen_of RQ3.out.out 2
                have f3 := frozen_of RQ3.out.out 3
                have f4 := frozen_of RQ3.out.out 4
                have zl := lt_of_heap RQ3.out.out
                clear HZ1 HZ2
                go_wp2_with fail
                rw [R.out]
                refine bodyPost_ret (results_ctN rfl rfl (v := .agg #[.int .i64 0, .int .i64 0, .int .i64 0, .int .i64 0, .int .i64 0]) ?_) rfl ⟨rfl, kept5 RQ3.out.kp _ _ _ _ _⟩
                go_simp
            · have e0 : w3.cell? ⟨g + 1, 2, none⟩ = some (.bool s.c) := cell_of RQ3.out.seen 2
              have el := lt_of_heap RQ3.out.seen
              have bl := lt_of_heap RQ3.out.box
              have HV : Hid (s.at 2 = s.c) := rfl
              cases hs : s.c
              · have c0 : w3.cell? ⟨g, 2, none⟩ = some (.int .i64 x.c) := cell_of RQ3.out.box 2
                have f0 := frozen_of RQ3.out.box 2
                have f1 := frozen_of RQ3.out.seen 2
                have HP : Hid _ := RQ3.out.put (k := 2) (n := (n : Int)) rfl rfl
                rw [hs] at e0 HV
                have ST2 : Hid (Stt l Z (q + 1) (q + 1) (x.put 2 n) (s.on 2)) := HZ2.out _ _ (by rw [HZ3.out, HV.out]; rfl)
                clear HZ3 hs HZ2 HZ1
                go_wp2_with fail
                go_roundw
                case rel => exact ⟨q + 1, q + 1, _, _, by simp, by simp, HP.out, fun _ => ST2.out, fun h => by omega⟩
                case measure => simp only [intOf]; omega
              · have R : Hid (Y = (zC, 230)) := by
                  show _ = _
                  rw [HY.out, HZ3.out, HV.out, hs]
                  rfl
                rw [hs] at e0
                clear HZ3 hs HV
                have d0 : w3.cell? ⟨w.heap.size, 0, none⟩ = some (.int .i64 0) := cell_of RQ3.out.out 0
                have d1 : w3.cell? ⟨w.heap.size, 1, none⟩ = some (.int .i64 0) := cell_of RQ3.out.out 1
                have d2 : w3.cell? ⟨w.heap.size, 2, none⟩ = some (.int .i64 0) := cell_of RQ3.out.out 2
                have d3 : w3.cell? ⟨w.heap.size, 3, none⟩ = some (.int .i64 0) := cell_of RQ3.out.out 3
                have d4 : w3.cell? ⟨w.heap.size, 4, none⟩ = some (.int .i64 0) := cell_of RQ3.out.out 4
                have f0 := frozen_of RQ3.out.out 0
                have f1 := frozen_of RQ3.out.out 1
                have f2 := frozen_of RQ3.out.out 2
                have f3 := frozen_of RQ3.out.out 3
                have f4 := frozen_of RQ3.out.out 4
                have zl := lt_of_heap RQ3.out.out
                clear HZ1 HZ2
                go_wp2_with fail
                rw [R.out]
                refine bodyPost_ret (results_ctN rfl rfl (v := .agg #[.int .i64 0, .int .i64 0, .int .i64 0, .int .i64 0, .int .i64 0]) ?_) rfl ⟨rfl, kept5 RQ3.out.kp _ _ _ _ _⟩
                go_simp
            · have e0 : w3.cell? ⟨g + 1, 3, none⟩ = some (.bool s.d) := cell_of RQ3.out.seen 3
              have el := lt_of_heap RQ3.out.seen
              have bl := lt_of_heap RQ3.out.box
              have HV : Hid (s.at 3 = s.d) := rfl
              cases hs : s.d
              · have c0 : w3.cell? ⟨g, 3, none⟩ = some (.int .i64 x.d) := cell_of RQ3.out.box 3
                have f0 := frozen_of RQ3.out.box 3
                have f1 := frozen_of RQ3.out.seen 3
                have HP : Hid _ := RQ3.out.put (k := 3) (n := (n : Int)) rfl rfl
                rw [hs] at e0 HV
                have ST2 : Hid (Stt l Z (q + 1) (q + 1) (x.put 3 n) (s.on 3)) := HZ2.out _ _ (by rw [HZ3.out, HV.out]; rfl)
                clear HZ3 hs HZ2 HZ1
                go_wp2_with fail
                go_roundw
                case rel => exact ⟨q + 1, q + 1, _, _, by simp, by simp, HP.out, fun _ => ST2.out, fun h => by omega⟩
                case measure => simp only [intOf]; omega
              · have R : Hid (Y = (zC, 230)) := by
                  show _ = _
                  rw [HY.out, HZ3.out, HV.out, hs]
                  rfl
                rw [hs] at e0
                clear HZ3 hs HV
                have d0 : w3.cell? ⟨w.heap.size, 0, none⟩ = some (.int .i64 0) := cell_of RQ3.out.out 0
                have d1 : w3.cell? ⟨w.heap.size, 1, none⟩ = some (.int .i64 0) := cell_of RQ3.out.out 1
                have d2 : w3.cell? ⟨w.heap.size, 2, none⟩ = some (.int .i64 0) := cell_of RQ3.out.out 2
                have d3 : w3.cell? ⟨w.heap.size, 3, none⟩ = some (.int .i64 0) := cell_of RQ3.out.out 3
                have d4 : w3.cell? ⟨w.heap.size, 4, none⟩ = some (.int .i64 0) := cell_of RQ3.out.out 4
                have f0 := frozen_of RQ3.out.out 0
                have f1 := frozen_of RQ3.out.out 1
                have f2 := frozen_of RQ3.out.out 2
                have f3 := frozen_of RQ3.out.out 3
                have f4 := frozen_of RQ3.out.out 4
                have zl := lt_of_heap RQ3.out.out
                clear HZ1 HZ2
                go_wp2_with fail
                rw [R.out]
                refine bodyPost_ret (results_ctN rfl rfl (v := .agg #[.int .i64 0, .int .i64 0, .int .i64 0, .int .i64 0, .int .i64 0]) ?_) rfl ⟨rfl, kept5 RQ3.out.kp _ _ _ _ _⟩
                go_simp
            · have e0 : w3.cell? ⟨g + 1, 4, none⟩ = some (.bool s.e) := cell_of RQ3.out.seen 4
              have el := lt_of_heap RQ3.out.seen
              have bl := lt_of_heap RQ3.out.box
              have HV : Hid (s.at 4 = s.e) := rfl
              cases hs : s.e
              · have c0 : w3.cell? ⟨g, 4, none⟩ = some (.int .i64 x.e) := cell_of RQ3.out.box 4
                have f0 := frozen_of RQ3.out.box 4
                have f1 := frozen_of RQ3.out.seen 4
                have HP : Hid _ := RQ3.out.put (k := 4) (n := (n : Int)) rfl rfl
                rw [hs] at e0 HV
                have ST2 : Hid (Stt l Z (q + 1) (q + 1) (x.put 4 n) (s.on 4)) := HZ2.out _ _ (by rw [HZ3.out, HV.out]; rfl)
                clear HZ3 hs HZ2 HZ1
                go_wp2_with fail
                go_roundw
                case rel => exact ⟨q + 1, q + 1, _, _, by simp, by simp, HP.out, fun _ => ST2.out, fun h => by omega⟩
                case measure => simp only [intOf]; omega
              · have R : Hid (Y = (zC, 230)) := by
                  show _ = _
                  rw [HY.out, HZ3.out, HV.out, hs]
                  rfl
                rw [hs] at e0
                clear HZ3 hs HV
                have d0 : w3.cell? ⟨w.heap.size, 0, none⟩ = some (.int .i64 0) := cell_of RQ3.out.out 0
                have d1 : w3.cell? ⟨w.heap.size, 1, none⟩ = some (.int .i64 0) := cell_of RQ3.out.out 1
                have d2 : w3.cell? ⟨w.heap.size, 2, none⟩ = some (.int .i64 0) := cell_of RQ3.out.out 2
                have d3 : w3.cell? ⟨w.heap.size, 3, none⟩ = some (.int .i64 0) := cell_of RQ3.out.out 3
                have d4 : w3.cell? ⟨w.heap.size, 4, none⟩ = some (.int .i64 0) := cell_of RQ3.out.out 4
                have f0 := frozen_of RQ3.out.out 0
                have f1 := frozen_of RQ3.out.out 1
                have f2 := frozen_of RQ3.out.out 2
                have f3 := frozen_of RQ3.out.out 3
                have f4 := frozen_of RQ3.out.out 4
                have zl := lt_of_heap RQ3.out.out
                clear HZ1 HZ2
                go_wp2_with fail
                rw [R.out]
                refine bodyPost_ret (results_ctN rfl rfl (v := .agg #[.int .i64 0, .int .i64 0, .int .i64 0, .int .i64 0, .int .i64 0]) ?_) rfl ⟨rfl, kept5 RQ3.out.kp _ _ _ _ _⟩
                go_simp
        · have d3n : decide (q < l.length) = true := decide_eq_true (by omega)
          have q32 : ((32 : Int) != 32) = false := rfl
          go_wp2_with fail
          refine Calls.mono (HW.out _ _ HPL.out) ?_
          rintro r w3 ⟨rfl, k3⟩
          have RQ3 : Hid (Rq w w3 g x s) := RQ.out.on k3
          clear k3 RQ hmd
          cases ho : stg pc with
          | none =>
            have R : Hid (Y = (zC, 230)) := by
              show _ = _
              rw [HY.out, HZ1.out]
              simp [rdP, ho, finC]
            simp only [whV]
            clear ho
            have d0 : w3.cell? ⟨w.heap.size, 0, none⟩ = some (.int .i64 0) := cell_of RQ3.out.out 0
            have d1 : w3.cell? ⟨w.heap.size, 1, none⟩ = some (.int .i64 0) := cell_of RQ3.out.out 1
            have d2 : w3.cell? ⟨w.heap.size, 2, none⟩ = some (.int .i64 0) := cell_of RQ3.out.out 2
            have d3 : w3.cell? ⟨w.heap.size, 3, none⟩ = some (.int .i64 0) := cell_of RQ3.out.out 3
            have d4 : w3.cell? ⟨w.heap.size, 4, none⟩ = some (.int .i64 0) := cell_of RQ3.out.out 4
            have f0 := frozen_of RQ3.out.out 0
            have f1 := frozen_of RQ3.out.out 1
            have f2 := frozen_of RQ3.out.out 2
            have f3 := frozen_of RQ3.out.out 3
            have f4 := frozen_of RQ3.out.out 4
            have zl := lt_of_heap RQ3.out.out
            clear HZ1 HZ2
            go_wp2_with fail
            rw [R.out]
            refine bodyPost_ret (results_ctN rfl rfl (v := .agg #[.int .i64 0, .int .i64 0, .int .i64 0, .int .i64 0, .int .i64 0]) ?_) rfl ⟨rfl, kept5 RQ3.out.kp _ _ _ _ _⟩
            go_simp
          | some kn =>
            obtain ⟨k, n⟩ := kn
            have hk5 := (stg_lt ho).1
            have HZ3 : Hid (Z = if s.at k = true then none else rdP ps (x.put k n) (s.on k)) := by
              show _ = _
              rw [HZ1.out]
              simp [rdP, ho]
            simp only [whV]
            clear ho
            have hc : k = 0 ∨ k = 1 ∨ k = 2 ∨ k = 3 ∨ k = 4 := by omega
            clear hk5
            rcases hc with rfl | rfl | rfl | rfl | rfl
            · have e0 : w3.cell? ⟨g + 1, 0, none⟩ = some (.bool s.a) := cell_of RQ3.out.seen 0
              have el := lt_of_heap RQ3.out.seen
              have bl := lt_of_heap RQ3.out.box
              have HV : Hid (s.at 0 = s.a) := rfl
              cases hs : s.a
              · have c0 : w3.cell? ⟨g, 0, none⟩ = some (.int .i64 x.a) := cell_of RQ3.out.box 0
                have f0 := frozen_of RQ3.out.box 0
                have f1 := frozen_of RQ3.out.seen 0
                have HP : Hid _ := RQ3.out.put (k := 0) (n := (n : Int)) rfl rfl
                rw [hs] at e0 HV
                have ST2 : Hid (Stt l Z (q + 1) (q + 1) (x.put 0 n) (s.on 0)) := HZ2.out _ _ (by rw [HZ3.out, HV.out]; rfl)
                clear HZ3 hs HZ2 HZ1
                go_wp2_with fail
                go_roundw
                case rel => exact ⟨q + 1, q + 1, _, _, by simp, by simp, HP.out, fun _ => ST2.out, fun h => by omega⟩
                case measure => simp only [intOf]; omega
              · have R : Hid (Y = (zC, 230)) := by
                  show _ = _
                  rw [HY.out, HZ3.out, HV.out, hs]
                  rfl
                rw [hs] at e0
                clear HZ3 hs HV
                have d0 : w3.cell? ⟨w.heap.size, 0, none⟩ = some (.int .i64 0) := cell_of RQ3.out.out 0
                have d1 : w3.cell? ⟨w.heap.size, 1, none⟩ = some (.int .i64 0) := cell_of RQ3.out.out 1
                have d2 : w3.cell? ⟨w.heap.size, 2, none⟩ = some (.int .i64 0) := cell_of RQ3.out.out 2
                have d3 : w3.cell? ⟨w.heap.size, 3, none⟩ = some (.int .i64 0) := cell_of RQ3.out.out 3
                have d4 : w3.cell? ⟨w.heap.size, 4, none⟩ = some (.int .i64 0) := cell_of RQ3.out.out 4
                have f0 := frozen_of RQ3.out.out 0
                have f1 := frozen_of RQ3.out.out 1
                have f2 := frozen_of RQ3.out.out 2
                have f3 := frozen_of RQ3.out.out 3
                have f4 := frozen_of RQ3.out.out 4
                have zl := lt_of_heap RQ3.out.out
                clear HZ1 HZ2
                go_wp2_with fail
                rw [R.out]
                refine bodyPost_ret (results_ctN rfl rfl (v := .agg #[.int .i64 0, .int .i64 0, .int .i64 0, .int .i64 0, .int .i64 0]) ?_) rfl ⟨rfl, kept5 RQ3.out.kp _ _ _ _ _⟩
                go_simp
            · have e0 : w3.cell? ⟨g + 1, 1, none⟩ = some (.bool s.b) := cell_of RQ3.out.seen 1
              have el := lt_of_heap RQ3.out.seen
              have bl := lt_of_heap RQ3.out.box
              have HV : Hid (s.at 1 = s.b) := rfl
              cases hs : s.b
              · have c0 : w3.cell? ⟨g, 1, none⟩ = some (.int .i64 x.b) := cell_of RQ3.out.box 1
                have f0 := frozen_of RQ3.out.box 1
                have f1 := frozen_of RQ3.out.seen 1
                have HP : Hid _ := RQ3.out.put (k := 1) (n := (n : Int)) rfl rfl
                rw [hs] at e0 HV
                have ST2 : Hid (Stt l Z (q + 1) (q + 1) (x.put 1 n) (s.on 1)) := HZ2.out _ _ (by rw [HZ3.out, HV.out]; rfl)
                clear HZ3 hs HZ2 HZ1
                go_wp2_with fail
                go_roundw
                case rel => exact ⟨q + 1, q + 1, _, _, by simp, by simp, HP.out, fun _ => ST2.out, fun h => by omega⟩
                case measure => simp only [intOf]; omega
              · have R : Hid (Y = (zC, 230)) := by
                  show _ = _
                  rw [HY.out, HZ3.out, HV.out, hs]
                  rfl
                rw [hs] at e0
                clear HZ3 hs HV
                have d0 : w3.cell? ⟨w.heap.size, 0, none⟩ = some (.int .i64 0) := cell_of RQ3.out.out 0
                have d1 : w3.cell? ⟨w.heap.size, 1, none⟩ = some (.int .i64 0) := cell_of RQ3.out.out 1
                have d2 : w3.cell? ⟨w.heap.size, 2, none⟩ = some (.int .i64 0) := cell_of RQ3.out.out 2
                have d3 : w3.cell? ⟨w.heap.size, 3, none⟩ = some (.int .i64 0) := cell_of RQ3.out.out 3
                have d4 : w3.cell? ⟨w.heap.size, 4, none⟩ = some (.int .i64 0) := cell_of RQ3.out.out 4
                have f0 := frozen_of RQ3.out.out 0
                have f1 := frozen_of RQ3.out.out 1
                have f2 := frozen_of RQ3.out.out 2
                have f3 := frozen_of RQ3.out.out 3
                have f4 := frozen_of RQ3.out.out 4
                have zl := lt_of_heap RQ3.out.out
                clear HZ1 HZ2
                go_wp2_with fail
                rw [R.out]
                refine bodyPost_ret (results_ctN rfl rfl (v := .agg #[.int .i64 0, .int .i64 0, .int .i64 0, .int .i64 0, .int .i64 0]) ?_) rfl ⟨rfl, kept5 RQ3.out.kp _ _ _ _ _⟩
                go_simp
            · have e0 : w3.cell? ⟨g + 1, 2, none⟩ = some (.bool s.c) := cell_of RQ3.out.seen 2
              have el := lt_of_heap RQ3.out.seen
              have bl := lt_of_heap RQ3.out.box
              have HV : Hid (s.at 2 = s.c) := rfl
              cases hs : s.c
              · have c0 : w3.cell? ⟨g, 2, none⟩ = some (.int .i64 x.c) := cell_of RQ3.out.box 2
                have f0 := frozen_of RQ3.out.box 2
                have f1 := frozen_of RQ3.out.seen 2
                have HP : Hid _ := RQ3.out.put (k := 2) (n := (n : Int)) rfl rfl
                rw [hs] at e0 HV
                have ST2 : Hid (Stt l Z (q + 1) (q + 1) (x.put 2 n) (s.on 2)) := HZ2.out _ _ (by rw [HZ3.out, HV.out]; rfl)
                clear HZ3 hs HZ2 HZ1
                go_wp2_with fail
                go_roundw
                case rel => exact ⟨q + 1, q + 1, _, _, by simp, by simp, HP.out, fun _ => ST2.out, fun h => by omega⟩
                case measure => simp only [intOf]; omega
              · have R : Hid (Y = (zC, 230)) := by
                  show _ = _
                  rw [HY.out, HZ3.out, HV.out, hs]
                  rfl
                rw [hs] at e0
                clear HZ3 hs HV
                have d0 : w3.cell? ⟨w.heap.size, 0, none⟩ = some (.int .i64 0) := cell_of RQ3.out.out 0
                have d1 : w3.cell? ⟨w.heap.size, 1, none⟩ = some (.int .i64 0) := cell_of RQ3.out.out 1
                have d2 : w3.cell? ⟨w.heap.size, 2, none⟩ = some (.int .i64 0) := cell_of RQ3.out.out 2
                have d3 : w3.cell? ⟨w.heap.size, 3, none⟩ = some (.int .i64 0) := cell_of RQ3.out.out 3
                have d4 : w3.cell? ⟨w.heap.size, 4, none⟩ = some (.int .i64 0) := cell_of RQ3.out.out 4
                have f0 := frozen_of RQ3.out.out 0
                have f1 := frozen_of RQ3.out.out 1
                have f2 := frozen_of RQ3.out.out 2
                have f3 := frozen_of RQ3.out.out 3
                have f4 := frozen_of RQ3.out.out 4
                have zl := lt_of_heap RQ3.out.out
                clear HZ1 HZ2
                go_wp2_with fail
                rw [R.out]
                refine bodyPost_ret (results_ctN rfl rfl (v := .agg #[.int .i64 0, .int .i64 0, .int .i64 0, .int .i64 0, .int .i64 0]) ?_) rfl ⟨rfl, kept5 RQ3.out.kp _ _ _ _ _⟩
                go_simp
            · have e0 : w3.cell? ⟨g + 1, 3, none⟩ = some (.bool s.d) := cell_of RQ3.out.seen 3
              have el := lt_of_heap RQ3.out.seen
              have bl := lt_of_heap RQ3.out.box
              have HV : Hid (s.at 3 = s.d) := rfl
              cases hs : s.d
              · have c0 : w3.cell? ⟨g, 3, none⟩ = some (.int .i64 x.d) := cell_of RQ3.out.box 3
                have f0 := frozen_of RQ3.out.box 3
                have f1 := frozen_of RQ3.out.seen 3
                have HP : Hid _ := RQ3.out.put (k := 3) (n := (n : Int)) rfl rfl
                rw [hs] at e0 HV
                have ST2 : Hid (Stt l Z (q + 1) (q + 1) (x.put 3 n) (s.on 3)) := HZ2.out _ _ (by rw [HZ3.out, HV.out]; rfl)
                clear HZ3 hs HZ2 HZ1
                go_wp2_with fail
                go_roundw
                case rel => exact ⟨q + 1, q + 1, _, _, by simp, by simp, HP.out, fun _ => ST2.out, fun h => by omega⟩
                case measure => simp only [intOf]; omega
              · have R : Hid (Y = (zC, 230)) := by
                  show _ = _
                  rw [HY.out, HZ3.out, HV.out, hs]
                  rfl
                rw [hs] at e0
                clear HZ3 hs HV
                have d0 : w3.cell? ⟨w.heap.size, 0, none⟩ = some (.int .i64 0) := cell_of RQ3.out.out 0
                have d1 : w3.cell? ⟨w.heap.size, 1, none⟩ = some (.int .i64 0) := cell_of RQ3.out.out 1
                have d2 : w3.cell? ⟨w.heap.size, 2, none⟩ = some (.int .i64 0) := cell_of RQ3.out.out 2
                have d3 : w3.cell? ⟨w.heap.size, 3, none⟩ = some (.int .i64 0) := cell_of RQ3.out.out 3
                have d4 : w3.cell? ⟨w.heap.size, 4, none⟩ = some (.int .i64 0) := cell_of RQ3.out.out 4
                have f0 := frozen_of RQ3.out.out 0
                have f1 := frozen_of RQ3.out.out 1
                have f2 := frozen_of RQ3.out.out 2
                have f3 := frozen_of RQ3.out.out 3
                have f4 := frozen_of RQ3.out.out 4
                have zl := lt_of_heap RQ3.out.out
                clear HZ1 HZ2
                go_wp2_with fail
                rw [R.out]
                refine bodyPost_ret (results_ctN rfl rfl (v := .agg #[.int .i64 0, .int .i64 0, .int .i64 0, .int .i64 0, .int .i64 0]) ?_) rfl ⟨rfl, kept5 RQ3.out.kp _ _ _ _ _⟩
                go_simp
            · have e0 : w3.cell? ⟨g + 1, 4, none⟩ = some (.bool s.e) := cell_of RQ3.out.seen 4
              have el := lt_of_heap RQ3.out.seen
              have bl := lt_of_heap RQ3.out.box
              have HV : Hid (s.at 4 = s.e) := rfl
              cases hs : s.e
              · have c0 : w3.cell? ⟨g, 4, none⟩ = some (.int .i64 x.e) := cell_of RQ3.out.box 4
                have f0 := frozen_of RQ3.out.box 4
                have f1 := frozen_of RQ3.out.seen 4
                have HP : Hid _ := RQ3.out.put (k := 4) (n := (n : Int)) rfl rfl
                rw [hs] at e0 HV
                have ST2 : Hid (Stt l Z (q + 1) (q + 1) (x.put 4 n) (s.on 4)) := HZ2.out _ _ (by rw [HZ3.out, HV.out]; rfl)
                clear HZ3 hs HZ2 HZ1
                go_wp2_with fail
                go_roundw
                case rel => exact ⟨q + 1, q + 1, _, _, by simp, by simp, HP.out, fun _ => ST2.out, fun h => by omega⟩
                case measure => simp only [intOf]; omega
              · have R : Hid (Y = (zC, 230)) := by
                  show _ = _
                  rw [HY.out, HZ3.out, HV.out, hs]
                  rfl
                rw [hs] at e0
                clear HZ3 hs HV
                have d0 : w3.cell? ⟨w.heap.size, 0, none⟩ = some (.int .i64 0) := cell_of RQ3.out.out 0
                have d1 : w3.cell? ⟨w.heap.size, 1, none⟩ = some (.int .i64 0) := cell_of RQ3.out.out 1
                have d2 : w3.cell? ⟨w.heap.size, 2, none⟩ = some (.int .i64 0) := cell_of RQ3.out.out 2
                have d3 : w3.cell? ⟨w.heap.size, 3, none⟩ = some (.int .i64 0) := cell_of RQ3.out.out 3
                have d4 : w3.cell? ⟨w.heap.size, 4, none⟩ = some (.int .i64 0) := cell_of RQ3.out.out 4
                have f0 := frozen_of RQ3.out.out 0
                have f1 := frozen_of RQ3.out.out 1
                have f2 := frozen_of RQ3.out.out 2
                have f3 := frozen_of RQ3.out.out 3
                have f4 := frozen_of RQ3.out.out 4
                have zl := lt_of_heap RQ3.out.out
                clear HZ1 HZ2
                go_wp2_with fail
                rw [R.out]
                refine bodyPost_ret (results_ctN rfl rfl (v := .agg #[.int .i64 0, .int .i64 0, .int .i64 0, .int .i64 0, .int .i64 0]) ?_) rfl ⟨rfl, kept5 RQ3.out.kp _ _ _ _ _⟩
                go_simp
    · have HZX : Hid (Z = some x) := by
        show _ = _
        by_cases h0 : l.length = 0
        · exact HE.out h0
        · obtain ⟨h1, h2, h3, h4⟩ := HS.out (by omega)
          exact h4 (by omega)
      have hor : decide ((q : Int) ≤ (l.length : Int)) = false ∨ (decide ((q : Int) ≤ (l.length : Int)) = true ∧ decide ((0 : Int) < (l.length : Int)) = false) := by
        by_cases h0 : q ≤ l.length
        · exact .inr ⟨decide_eq_true (by omega), decide_eq_false (by omega)⟩
        · exact .inl (decide_eq_false (by omega))
      have hornat : (decide (q ≤ l.length) = false) ∨ (decide (q ≤ l.length) = true ∧ decide (0 < l.length) = false) := by
        by_cases h0 : q ≤ l.length
        · exact .inr ⟨decide_eq_true (by omega), decide_eq_false (by omega)⟩
        · exact .inl (decide_eq_false (by omega))
      clear HS HE
      obtain ⟨a, b, c, d, e⟩ := x
      have c0 : W.cell? ⟨g, 0, none⟩ = some (.int .i64 a) := cell_of RQ.out.box 0
      have c1 : W.cell? ⟨g, 1, none⟩ = some (.int .i64 b) := cell_of RQ.out.box 1
      have c2 : W.cell? ⟨g, 2, none⟩ = some (.int .i64 c) := cell_of RQ.out.box 2
      have c3 : W.cell? ⟨g, 3, none⟩ = some (.int .i64 d) := cell_of RQ.out.box 3
      have c4 : W.cell? ⟨g, 4, none⟩ = some (.int .i64 e) := cell_of RQ.out.box 4
      have yl := lt_of_heap RQ.out.box
      have HH : Hid (decide ((q : Int) ≤ (l.length : Int)) = false ∨ (decide ((q : Int) ≤ (l.length : Int)) = true ∧ decide ((0 : Int) < (l.length : Int)) = false)) := hor
      have HHN : Hid (decide (q ≤ l.length) = false ∨ (decide (q ≤ l.length) = true ∧ decide (0 < l.length) = false)) := hornat
      clear hor hornat hrun
      by_cases h0 : q ≤ l.length
      · have t1 : decide ((q : Int) ≤ (l.length : Int)) = true := decide_eq_true (by omega)
        have t1n : decide (q ≤ l.length) = true := decide_eq_true h0
        have h00 : ¬ 0 < l.length := by
          rcases HHN.out with h | ⟨h, h2⟩
          · rw [t1n] at h; cases h
          · exact of_decide_eq_false h2
        have t2 : decide ((0 : Int) < (l.length : Int)) = false := decide_eq_false (by omega)
        have t2n : decide (0 < l.length) = false := decide_eq_false h00
        clear h00 h0
        go_upto_region 16 with fail
        have G3 : Hid ((W.alloc (.cells #[.int .i64 a, .int .i64 b, .int .i64 c, .int .i64 d, .int .i64 e] 23)).heap[W.heap.size]? = some (.cells #[.int .i64 a, .int .i64 b, .int .i64 c, .int .i64 d, .int .i64 e] 23 (0, 0))) := heap_new _ _
        have RQ3 : Hid (Rq w (W.alloc (.cells #[.int .i64 a, .int .i64 b, .int .i64 c, .int .i64 d, .int .i64 e] 23)) g ⟨a, b, c, d, e⟩ s) := RQ.out.on ((Same.refl _ W).alloc _)
        have LT : Hid (w.heap.size < W.heap.size) := lt_of_heap RQ.out.out
        generalize W.alloc (.cells #[.int .i64 a, .int .i64 b, .int .i64 c, .int .i64 d, .int .i64 e] 23) = W3 at G3 RQ3 ⊢
        generalize W.heap.size = g3 at G3 LT yl ⊢
        clear RQ c0 c1 c2 c3 c4 yl
        have c0 : W3.cell? ⟨g3, 0, none⟩ = some (.int .i64 a) := cell_of G3.out 0
        have c1 : W3.cell? ⟨g3, 1, none⟩ = some (.int .i64 b) := cell_of G3.out 1
        have c2 : W3.cell? ⟨g3, 2, none⟩ = some (.int .i64 c) := cell_of G3.out 2
        have c3 : W3.cell? ⟨g3, 3, none⟩ = some (.int .i64 d) := cell_of G3.out 3
        have c4 : W3.cell? ⟨g3, 4, none⟩ = some (.int .i64 e) := cell_of G3.out 4
        have yl := lt_of_heap G3.out
        go_wp2_with fail
        refine Calls.mono (HC.out ⟨a, b, c, d, e⟩ _) ?_
        rintro r w4 ⟨rfl, k4⟩
        have K4 : Hid (Kept w w4) := RQ3.out.kp.trans' k4
        have B4 : Hid (w4.heap[w.heap.size]? = some (.cells (cgA zC) 23 (0, 0))) := (k4.block _ (lt_of_heap RQ3.out.out) (fun e => e)).trans RQ3.out.out
        have G4 : Hid (w4.heap[g3]? = some (.cells #[.int .i64 a, .int .i64 b, .int .i64 c, .int .i64 d, .int .i64 e] 23 (0, 0))) := (k4.block _ (lt_of_heap G3.out) (fun e => e)).trans G3.out
        clear k4 RQ3 G3 c0 c1 c2 c3 c4 yl
        have d0 : w4.cell? ⟨w.heap.size, 0, none⟩ = some (.int .i64 0) := cell_of B4.out 0
        have d1 : w4.cell? ⟨w.heap.size, 1, none⟩ = some (.int .i64 0) := cell_of B4.out 1
        have d2 : w4.cell? ⟨w.heap.size, 2, none⟩ = some (.int .i64 0) := cell_of B4.out 2
        have d3 : w4.cell? ⟨w.heap.size, 3, none⟩ = some (.int .i64 0) := cell_of B4.out 3
        have d4 : w4.cell? ⟨w.heap.size, 4, none⟩ = some (.int .i64 0) := cell_of B4.out 4
        have f0 := frozen_of B4.out 0
        have f1 := frozen_of B4.out 1
        have f2 := frozen_of B4.out 2
        have f3 := frozen_of B4.out 3
        have f4 := frozen_of B4.out 4
        have zl := lt_of_heap B4.out
        have c0 : w4.cell? ⟨g3, 0, none⟩ = some (.int .i64 a) := cell_of G4.out 0
        have c1 : w4.cell? ⟨g3, 1, none⟩ = some (.int .i64 b) := cell_of G4.out 1
        have c2 : w4.cell? ⟨g3, 2, none⟩ = some (.int .i64 c) := cell_of G4.out 2
        have c3 : w4.cell? ⟨g3, 3, none⟩ = some (.int .i64 d) := cell_of G4.out 3
        have c4 : w4.cell? ⟨g3, 4, none⟩ = some (.int .i64 e) := cell_of G4.out 4
        have yl := lt_of_heap G4.out
        have gl := LT.out
        by_cases hz : chk ⟨a, b, c, d, e⟩ = 0
        · have R : Hid (Y = (⟨a, b, c, d, e⟩, 0)) := by
            show _ = _
            rw [HY.out, HZX.out]
            unfold finC
            dsimp only
            rw [hz]
            rfl
          rw [hz]
          clear hz HZX
          go_wp2_with fail
          rw [R.out]
          refine bodyPost_ret (results_ctN rfl rfl (v := .agg #[.int .i64 a, .int .i64 b, .int .i64 c, .int .i64 d, .int .i64 e]) ?_) rfl ⟨rfl, kept5 K4.out _ _ _ _ _⟩
          go_simp
        · have R : Hid (Y = (zC, chk ⟨a, b, c, d, e⟩)) := by
            show _ = _
            rw [HY.out, HZX.out]
            unfold finC
            dsimp only
            rw [if_pos hz]
          have hq : (chk ⟨a, b, c, d, e⟩ != 0) = true := by simpa using hz
          clear HZX
          generalize chk ⟨a, b, c, d, e⟩ = qq at *
          clear hz
          go_wp2_with fail
          rw [R.out]
          refine bodyPost_ret (results_ctN rfl rfl (v := .agg #[.int .i64 0, .int .i64 0, .int .i64 0, .int .i64 0, .int .i64 0]) ?_) rfl ⟨rfl, kept5 K4.out _ _ _ _ _⟩
          go_simp
      · have t1 : decide ((q : Int) ≤ (l.length : Int)) = false := decide_eq_false (by omega)
        have t1n : decide (q ≤ l.length) = false := decide_eq_false h0
        go_upto_region 16 with fail
        have G3 : Hid ((W.alloc (.cells #[.int .i64 a, .int .i64 b, .int .i64 c, .int .i64 d, .int .i64 e] 23)).heap[W.heap.size]? = some (.cells #[.int .i64 a, .int .i64 b, .int .i64 c, .int .i64 d, .int .i64 e] 23 (0, 0))) := heap_new _ _
        have RQ3 : Hid (Rq w (W.alloc (.cells #[.int .i64 a, .int .i64 b, .int .i64 c, .int .i64 d, .int .i64 e] 23)) g ⟨a, b, c, d, e⟩ s) := RQ.out.on ((Same.refl _ W).alloc _)
        have LT : Hid (w.heap.size < W.heap.size) := lt_of_heap RQ.out.out
        generalize W.alloc (.cells #[.int .i64 a, .int .i64 b, .int .i64 c, .int .i64 d, .int .i64 e] 23) = W3 at G3 RQ3 ⊢
        generalize W.heap.size = g3 at G3 LT yl ⊢
        clear RQ c0 c1 c2 c3 c4 yl
        have c0 : W3.cell? ⟨g3, 0, none⟩ = some (.int .i64 a) := cell_of G3.out 0
        have c1 : W3.cell? ⟨g3, 1, none⟩ = some (.int .i64 b) := cell_of G3.out 1
        have c2 : W3.cell? ⟨g3, 2, none⟩ = some (.int .i64 c) := cell_of G3.out 2
        have c3 : W3.cell? ⟨g3, 3, none⟩ = some (.int .i64 d) := cell_of G3.out 3
        have c4 : W3.cell? ⟨g3, 4, none⟩ = some (.int .i64 e) := cell_of G3.out 4
        have yl := lt_of_heap G3.out
        go_wp2_with fail
        refine Calls.mono (HC.out ⟨a, b, c, d, e⟩ _) ?_
        rintro r w4 ⟨rfl, k4⟩
        have K4 : Hid (Kept w w4) := RQ3.out.kp.trans' k4
        have B4 : Hid (w4.heap[w.heap.size]? = some (.cells (cgA zC) 23 (0, 0))) := (k4.block _ (lt_of_heap RQ3.out.out) (fun e => e)).trans RQ3.out.out
        have G4 : Hid (w4.heap[g3]? = some (.cells #[.int .i64 a, .int .i64 b, .int .i64 c, .int .i64 d, .int .i64 e] 23 (0, 0))) := (k4.block _ (lt_of_heap G3.out) (fun e => e)).trans G3.out
        clear k4 RQ3 G3 c0 c1 c2 c3 c4 yl
        have d0 : w4.cell? ⟨w.heap.size, 0, none⟩ = some (.int .i64 0) := cell_of B4.out 0
        have d1 : w4.cell? ⟨w.heap.size, 1, none⟩ = some (.int .i64 0) := cell_of B4.out 1
        have d2 : w4.cell? ⟨w.heap.size, 2, none⟩ = some (.int .i64 0) := cell_of B4.out 2
        have d3 : w4.cell? ⟨w.heap.size, 3, none⟩ = some (.int .i64 0) := cell_of B4.out 3
        have d4 : w4.cell? ⟨w.heap.size, 4, none⟩ = some (.int .i64 0) := cell_of B4.out 4
        have f0 := frozen_of B4.out 0
        have f1 := frozen_of B4.out 1
        have f2 := frozen_of B4.out 2
        have f3 := frozen_of B4.out 3
        have f4 := frozen_of B4.out 4
        have zl := lt_of_heap B4.out
        have c0 : w4.cell? ⟨g3, 0, none⟩ = some (.int .i64 a) := cell_of G4.out 0
        have c1 : w4.cell? ⟨g3, 1, none⟩ = some (.int .i64 b) := cell_of G4.out 1
        have c2 : w4.cell? ⟨g3, 2, none⟩ = some (.int .i64 c) := cell_of G4.out 2
        have c3 : w4.cell? ⟨g3, 3, none⟩ = some (.int .i64 d) := cell_of G4.out 3
        have c4 : w4.cell? ⟨g3, 4, none⟩ = some (.int .i64 e) := cell_of G4.out 4
        have yl := lt_of_heap G4.out
        have gl := LT.out
        by_cases hz : chk ⟨a, b, c, d, e⟩ = 0
        · have R : Hid (Y = (⟨a, b, c, d, e⟩, 0)) := by
            show _ = _
            rw [HY.out, HZX.out]
            unfold finC
            dsimp only
            rw [hz]
            rfl
          rw [hz]
          clear hz HZX
          go_wp2_with fail
          rw [R.out]
          refine bodyPost_ret (results_ctN rfl rfl (v := .agg #[.int .i64 a, .int .i64 b, .int .i64 c, .int .i64 d, .int .i64 e]) ?_) rfl ⟨rfl, kept5 K4.out _ _ _ _ _⟩
          go_simp
        · have R : Hid (Y = (zC, chk ⟨a, b, c, d, e⟩)) := by
            show _ = _
            rw [HY.out, HZX.out]
            unfold finC
            dsimp only
            rw [if_pos hz]
          have hq : (chk ⟨a, b, c, d, e⟩ != 0) = true := by simpa using hz
          clear HZX
          generalize chk ⟨a, b, c, d, e⟩ = qq at *
          clear hz
          go_wp2_with fail
          rw [R.out]
          refine bodyPost_ret (results_ctN rfl rfl (v := .agg #[.int .i64 0, .int .i64 0, .int .i64 0, .int .i64 0, .int .i64 0]) ?_) rfl ⟨rfl, kept5 K4.out _ _ _ _ _⟩
          go_simp
end Go.Proofs.YtolooejcgdknnaaDoor
