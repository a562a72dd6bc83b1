/- What is proved: config's readNumbers and Parse; condition: the text's length. -/
import Derived.Test.YtolooejcgdknnaaDoorCfR
namespace Go.Proofs.YtolooejcgdknnaaDoor
open Go.RowKit

def rdV (o : Option Cg) : Value := match o with
  | none => .tuple #[.agg #[.int .i64 0, .int .i64 0, .int .i64 0, .int .i64 0, .int .i64 0], .bool false]
  | some x => .tuple #[.agg #[.int .i64 x.a, .int .i64 x.b, .int .i64 x.c, .int .i64 x.d, .int .i64 x.e], .bool true]
def cgA (x : Cg) : Array Value := #[.int .i64 x.a, .int .i64 x.b, .int .i64 x.c, .int .i64 x.d, .int .i64 x.e]
def snA (s : Sn) : Array Value := #[.bool s.a, .bool s.b, .bool s.c, .bool s.d, .bool s.e]
/-- The function's boxes. -/
structure Rn (w W : World) (g : Nat) (x : Cg) (s : Sn) : Prop where
  out : W.heap[w.heap.size]? = some (.cells (cgA zC) 43 (0, 0))
  box : W.heap[g]? = some (.cells (cgA x) 43 (0, 0))
  seen : W.heap[g + 1]? = some (.cells (snA s) 56 (0, 0))
  lt : w.heap.size < g
  kp : Kept w W
theorem Rn.on {w W W' : World} {g : Nat} {x : Cg} {s : Sn} (h : Rn w W g x s) (k : Kept W W') : Rn w W' g x s :=
  ⟨(k.block _ (lt_of_heap h.out) (fun e => e)).trans h.out, (k.block _ (lt_of_heap h.box) (fun e => e)).trans h.box, (k.block _ (lt_of_heap h.seen) (fun e => e)).trans h.seen, h.lt, h.kp.trans' k⟩
theorem Rn.put {w W : World} {g : Nat} {x : Cg} {s : Sn} (h : Rn w W g x s) {k : Nat} {n : Int} (hx : (cgA x).setIfInBounds k (.int .i64 n) = cgA (x.put k n)) (hs : (snA s).setIfInBounds k (.bool true) = snA (s.on k)) : Rn w ((W.setCell ⟨g, k, none⟩ (.int .i64 n)).setCell ⟨g + 1, k, none⟩ (.bool true)) g (x.put k n) (s.on k) := by
  have s1 : Same (fun i => i = g) W (W.setCell ⟨g, k, none⟩ (.int .i64 n)) := Same.setCell (Same.refl (fun i => i = g) W) _ (.inr rfl) _
  have s2 : Same (fun i => i = g + 1) (W.setCell ⟨g, k, none⟩ (.int .i64 n)) ((W.setCell ⟨g, k, none⟩ (.int .i64 n)).setCell ⟨g + 1, k, none⟩ (.bool true)) := Same.setCell (Same.refl (fun i => i = g + 1) _) _ (.inr rfl) _
  have hl := h.lt
  have b1 : (W.setCell ⟨g, k, none⟩ (.int .i64 n)).heap[w.heap.size]? = _ := (s1.block _ (lt_of_heap h.out) (by omega)).trans h.out
  have b2 := setCell_at h.box k (.int .i64 n)
  have b3 : (W.setCell ⟨g, k, none⟩ (.int .i64 n)).heap[g + 1]? = _ := (s1.block _ (lt_of_heap h.seen) (by omega)).trans h.seen
  refine ⟨(s2.block _ (lt_of_heap b1) (by omega)).trans b1, ((s2.block _ (lt_of_heap b2) (by omega)).trans b2).trans (by rw [hx]), (setCell_at b3 k (.bool true)).trans (by rw [hs]), hl, ?_⟩
  exact (h.kp.setCell _ (.inl (by show w.heap.size ≤ g; omega)) _).setCell _ (.inl (by show w.heap.size ≤ g + 1; omega)) _
def szV : Value → Nat
  | .string b => b.size
  | _ => 0
def blV : Value → Nat
  | .bool true => 1
  | _ => 0
theorem pcs_cut (l : List UInt8) : pcs l = if (cutb 32 l).2.2 = true then (cutb 32 l).1 :: pcs (cutb 32 l).2.1 else [(cutb 32 l).1] := by
  rcases cut_cases 32 l with h | ⟨a, r, h, rfl⟩
  · rw [cutb_no h, pcs_no h]
    rfl
  · rw [cutb_at h, pcs_at h]
    rfl
theorem cut_less {l : List UInt8} (h : (cutb 32 l).2.2 = true) : (cutb 32 l).2.1.length < l.length := by
  rcases cut_cases 32 l with h2 | ⟨a, r, h2, rfl⟩
  · rw [cutb_no h2] at h
    cases h
  · rw [cutb_at h2]
    simp
    omega
theorem cut_none {l : List UInt8} (h : (cutb 32 l).2.2 = false) : (cutb 32 l).2.1 = [] := by
  rcases cut_cases 32 l with h2 | ⟨a, r, h2, rfl⟩
  · rw [cutb_no h2]
  · rw [cutb_at h2] at h
    cases h
set_option maxRecDepth 100000 in
set_option maxHeartbeats 3200000 in
theorem readNumbers_any (l : List UInt8) (w : World) (hl : l.length ≤ 281474976710656) : Calls Tryd.prog 22 #[tx l] w fun e w' => e = .returned (rdV (rdC l)) ∧ Kept w w' := by
  have HU : Hid (∀ w, _) := usualNumbers_any
  have HC : Hid (∀ (r : List UInt8) w, r.length ≤ 281474976710656 → _) := fun r w h => cutw_any r 32 w (by omega)
  have HR : Hid (∀ (r : List UInt8) w, r.length ≤ 281474976710656 → _) := fun r w h => readSetting_any r w h
  obtain ⟨Z, eZ⟩ : ∃ Z, Z = rdC l := ⟨_, rfl⟩
  have HZ : Hid (Z = rdC l) := eZ
  rw [← eZ]
  clear eZ
  go_enter Tryd.func22, Tryd.ntmps22
  go_wp2_with fail
  refine Calls.mono (HU.out _) ?_
  rintro e w1 ⟨rfl, k1⟩
  have B1 : Hid (w1.heap[w.heap.size]? = some (.cells (cgA zC) 43 (0, 0))) := (k1.block _ (by simp) (fun e => e)).trans (heap_new _ _)
  have K1 : Hid (Kept w w1) := ((Same.refl _ w).alloc _).trans' k1
  clear k1
  go_upto_region 3 with fail
  have R1 : Hid (Rn w ((w1.alloc (.cells #[.int .i64 4096, .int .i64 8, .int .i64 1048576, .int .i64 0, .int .i64 100] 43)).alloc (.cells #[.bool false, .bool false, .bool false, .bool false, .bool false] 56)) w1.heap.size usC sn0) := by
    have h2 := heap_new (w1.alloc (.cells #[.int .i64 4096, .int .i64 8, .int .i64 1048576, .int .i64 0, .int .i64 100] 43)) (.cells #[.bool false, .bool false, .bool false, .bool false, .bool false] 56)
    rw [World.size_alloc] at h2
    exact ⟨(heap_old _ _ (by have := lt_of_heap B1.out; simp; omega)).trans ((heap_old _ _ (lt_of_heap B1.out)).trans B1.out), (heap_old _ _ (by simp)).trans (heap_new _ _), h2, lt_of_heap B1.out, (K1.out.alloc _).alloc _⟩
  generalize World.alloc (World.alloc w1 _) _ = W2 at R1 ⊢
  generalize w1.heap.size = g at R1 ⊢
  clear B1 K1
  have H0 : Hid (Z = if (!l.isEmpty) = true then rdP (pcs l) usC sn0 else some usC) := by
    show _ = _
    rw [HZ.out]
    unfold rdC
    cases l with
    | nil => rfl
    | cons a r => rfl
  clear HZ
  have HL : Hid (l.length ≤ 281474976710656) := hl
  clear hl
  go_wp2_with fail
  go_loopw [0, 6] (fun t m wr => ∃ (r : List UInt8) (b : Bool) (x : Cg) (s : Sn), t = tx r ∧ m = .bool b ∧ r.length ≤ 281474976710656 ∧ Rn w wr g x s ∧ Z = if b = true then rdP (pcs r) x s else some x) (fun t m _ => 2 * szV t + blV m)
  case atStart => exact ⟨l, !l.isEmpty, usC, sn0, rfl, rfl, HL.out, R1.out, H0.out⟩
  case round =>
    obtain ⟨r, b, x, s, rfl, rfl, h1, h2, h3⟩ := hrel
    rename World => W
    have HR1 : Hid (Rn w W g x s) := h2
    have HLR : Hid (r.length ≤ 281474976710656) := h1
    have HZ : Hid (Z = if b = true then rdP (pcs r) x s else some x) := h3
    clear h1 h2 h3
    cases b with
    | false =>
      have R : Hid (Z = some x) := HZ.out
      have c0 : W.cell? ⟨g, 0, none⟩ = some (.int .i64 x.a) := cell_of HR1.out.box 0
      have c1 : W.cell? ⟨g, 1, none⟩ = some (.int .i64 x.b) := cell_of HR1.out.box 1
      have c2 : W.cell? ⟨g, 2, none⟩ = some (.int .i64 x.c) := cell_of HR1.out.box 2
      have c3 : W.cell? ⟨g, 3, none⟩ = some (.int .i64 x.d) := cell_of HR1.out.box 3
      have c4 : W.cell? ⟨g, 4, none⟩ = some (.int .i64 x.e) := cell_of HR1.out.box 4
      have d0 : W.cell? ⟨w.heap.size, 0, none⟩ = some (.int .i64 0) := cell_of HR1.out.out 0
      have d1 : W.cell? ⟨w.heap.size, 1, none⟩ = some (.int .i64 0) := cell_of HR1.out.out 1
      have d2 : W.cell? ⟨w.heap.size, 2, none⟩ = some (.int .i64 0) := cell_of HR1.out.out 2
      have d3 : W.cell? ⟨w.heap.size, 3, none⟩ = some (.int .i64 0) := cell_of HR1.out.out 3
      have d4 : W.cell? ⟨w.heap.size, 4, none⟩ = some (.int .i64 0) := cell_of HR1.out.out 4
      have f0 := frozen_of HR1.out.out 0
      have f1 := frozen_of HR1.out.out 1
      have f2 := frozen_of HR1.out.out 2
      have f3 := frozen_of HR1.out.out 3
      have f4 := frozen_of HR1.out.out 4
      have yl := lt_of_heap HR1.out.box
      have zl := lt_of_heap HR1.out.out
      have gl := HR1.out.lt
      go_wp2_with fail
      rw [R.out]
      refine bodyPost_ret (results_ctN rfl rfl (v := .agg #[.int .i64 x.a, .int .i64 x.b, .int .i64 x.c, .int .i64 x.d, .int .i64 x.e]) ?_) rfl ⟨rfl, ?_⟩
      · go_simp
      · exact ((((HR1.out.kp.setCell _ (.inl (Nat.le_refl _)) _).setCell _ (.inl (Nat.le_refl _)) _).setCell _ (.inl (Nat.le_refl _)) _).setCell _ (.inl (Nat.le_refl _)) _).setCell _ (.inl (Nat.le_refl _)) _
    | true =>
      have HZ2 : Hid (Z = if (cutb 32 r).2.2 = true then rdP ((cutb 32 r).1 :: pcs (cutb 32 r).2.1) x s else rdP [(cutb 32 r).1] x s) := by
        show _ = _
        rw [HZ.out, if_pos rfl, pcs_cut r]
        split <;> rfl
      have HCR : Hid (∀ w, _) := fun w => HC.out r w HLR.out
      have HLP : Hid ((cutb 32 r).1.length ≤ 281474976710656 ∧ (cutb 32 r).2.1.length ≤ 281474976710656) := by have := cutb_len 32 r; have h9 := HLR.out; exact ⟨by omega, by omega⟩
      have HME : Hid (2 * (cutb 32 r).2.1.length + blV (.bool (cutb 32 r).2.2) < 2 * r.length + 1) := by
        show _ < _
        cases h : (cutb 32 r).2.2
        · rw [cut_none h]; simp [blV]
        · have := cut_less h; simp only [blV]; omega
      generalize cutb 32 r = q at *
      obtain ⟨p, r2, fd⟩ := q
      simp only at HCR HZ2 HLP HME
      clear HZ
      go_wp2_with fail
      refine Calls.mono (HCR.out _) ?_
      rintro e wa ⟨rfl, m, rfl⟩
      go_wp2_with fail
      refine Calls.mono (HR.out p _ HLP.out.1) ?_
      rintro e w3 ⟨rfl, k3⟩
      have HR3 : Hid (Rn w w3 g x s) := HR1.out.on (((Same.refl _ W).drewN m).trans' k3)
      clear k3
      cases ho : stg p with
      | none =>
        have R : Hid (Z = none) := by
          show _ = _
          rw [HZ2.out]
          split <;> (unfold rdP; rw [ho])
        simp only [stV]
        have d0 : w3.cell? ⟨w.heap.size, 0, none⟩ = some (.int .i64 0) := cell_of HR3.out.out 0
        have d1 : w3.cell? ⟨w.heap.size, 1, none⟩ = some (.int .i64 0) := cell_of HR3.out.out 1
        have d2 : w3.cell? ⟨w.heap.size, 2, none⟩ = some (.int .i64 0) := cell_of HR3.out.out 2
        have d3 : w3.cell? ⟨w.heap.size, 3, none⟩ = some (.int .i64 0) := cell_of HR3.out.out 3
        have d4 : w3.cell? ⟨w.heap.size, 4, none⟩ = some (.int .i64 0) := cell_of HR3.out.out 4
        have f0 := frozen_of HR3.out.out 0
        have f1 := frozen_of HR3.out.out 1
        have f2 := frozen_of HR3.out.out 2
        have f3 := frozen_of HR3.out.out 3
        have f4 := frozen_of HR3.out.out 4
        have zl := lt_of_heap HR3.out.out
        clear HR1 HZ2 HCR HME ho
        go_wp2_with fail
        rw [R.out]
        refine bodyPost_ret (results_ctN rfl rfl (v := .agg #[.int .i64 0, .int .i64 0, .int .i64 0, .int .i64 0, .int .i64 0]) ?_) rfl ⟨rfl, ?_⟩
        · go_simp
        · exact ((((HR3.out.kp.setCell _ (.inl (Nat.le_refl _)) _).setCell _ (.inl (Nat.le_refl _)) _).setCell _ (.inl (Nat.le_refl _)) _).setCell _ (.inl (Nat.le_refl _)) _).setCell _ (.inl (Nat.le_refl _)) _
      | some kn =>
        obtain ⟨k, n⟩ := kn
        have hk5 := (stg_lt ho).1
        have HZ3 : Hid (Z = if s.at k = true then none else if fd = true then rdP (pcs r2) (x.put k n) (s.on k) else some (x.put k n)) := by
          show _ = _
          rw [HZ2.out]
          cases fd <;> simp [rdP, ho]
        simp only [stV]
        clear HR1 HZ2 HCR ho
        have hc : k = 0 ∨ k = 1 ∨ k = 2 ∨ k = 3 ∨ k = 4 := by omega
        clear hk5
        rcases hc with rfl | rfl | rfl | rfl | rfl
        · have e0 : w3.cell? ⟨g + 1, 0, none⟩ = some (.bool s.a) := cell_of HR3.out.seen 0
          have el := lt_of_heap HR3.out.seen
          have bl := lt_of_heap HR3.out.box
          have HV : Hid (s.at 0 = s.a) := rfl
          cases hs : s.a
          · have c0 : w3.cell? ⟨g, 0, none⟩ = some (.int .i64 x.a) := cell_of HR3.out.box 0
            have f0 := frozen_of HR3.out.box 0
            have f1 := frozen_of HR3.out.seen 0
            have HP : Hid _ := HR3.out.put (k := 0) (n := (n : Int)) rfl rfl
            rw [hs] at e0 HV
            have HZ4 : Hid (Z = if fd = true then rdP (pcs r2) (x.put 0 n) (s.on 0) else some (x.put 0 n)) := by
              show _ = _
              rw [HZ3.out, HV.out]
              rfl
            clear HZ3 hs
            go_wp2_with fail
            go_roundw
            case rel => exact ⟨r2, fd, _, _, rfl, rfl, HLP.out.2, HP.out, HZ4.out⟩
            case measure =>
              have h9 := HME.out
              simp only [szV, sz]
              exact h9
          · have R : Hid (Z = none) := by
              show _ = _
              rw [HZ3.out, HV.out, hs]
              rfl
            rw [hs] at e0
            have d0 : w3.cell? ⟨w.heap.size, 0, none⟩ = some (.int .i64 0) := cell_of HR3.out.out 0
            have d1 : w3.cell? ⟨w.heap.size, 1, none⟩ = some (.int .i64 0) := cell_of HR3.out.out 1
            have d2 : w3.cell? ⟨w.heap.size, 2, none⟩ = some (.int .i64 0) := cell_of HR3.out.out 2
            have d3 : w3.cell? ⟨w.heap.size, 3, none⟩ = some (.int .i64 0) := cell_of HR3.out.out 3
            have d4 : w3.cell? ⟨w.heap.size, 4, none⟩ = some (.int .i64 0) := cell_of HR3.out.out 4
            have f0 := frozen_of HR3.out.out 0
            have f1 := frozen_of HR3.out.out 1
            have f2 := frozen_of HR3.out.out 2
            have f3 := frozen_of HR3.out.out 3
            have f4 := frozen_of HR3.out.out 4
            have zl := lt_of_heap HR3.out.out
            clear HZ3 hs HV
            go_wp2_with fail
            rw [R.out]
            refine bodyPost_ret (results_ctN rfl rfl (v := .agg #[.int .i64 0, .int .i64 0, .int .i64 0, .int .i64 0, .int .i64 0]) ?_) rfl ⟨rfl, ?_⟩
            · go_simp
            · exact ((((HR3.out.kp.setCell _ (.inl (Nat.le_refl _)) _).setCell _ (.inl (Nat.le_refl _)) _).setCell _ (.inl (Nat.le_refl _)) _).setCell _ (.inl (Nat.le_refl _)) _).setCell _ (.inl (Nat.le_refl _)) _
        · have e0 : w3.cell? ⟨g + 1, 1, none⟩ = some (.bool s.b) := cell_of HR3.out.seen 1
          have el := lt_of_heap HR3.out.seen
          have bl := lt_of_heap HR3.out.box
          have HV : Hid (s.at 1 = s.b) := rfl
          cases hs : s.b
          · have c0 : w3.cell? ⟨g, 1, none⟩ = some (.int .i64 x.b) := cell_of HR3.out.box 1
            have f0 := frozen_of HR3.out.box 1
            have f1 := frozen_of HR3.out.seen 1
            have HP : Hid _ := HR3.out.put (k := 1) (n := (n : Int)) rfl rfl
            rw [hs] at e0 HV
            have HZ4 : Hid (Z = if fd = true then rdP (pcs r2) (x.put 1 n) (s.on 1) else some (x.put 1 n)) := by
              show _ = _
              rw [HZ3.out, HV.out]
              rfl
            clear HZ3 hs
            go_wp2_with fail
            go_roundw
            case rel => exact ⟨r2, fd, _, _, rfl, rfl, HLP.out.2, HP.out, HZ4.out⟩
            case measure =>
              have h9 := HME.out
              simp only [szV, sz]
              exact h9
          · have R : Hid (Z = none) := by
              show _ = _
              rw [HZ3.out, HV.out, hs]
              rfl
            rw [hs] at e0
            have d0 : w3.cell? ⟨w.heap.size, 0, none⟩ = some (.int .i64 0) := cell_of HR3.out.out 0
            have d1 : w3.cell? ⟨w.heap.size, 1, none⟩ = some (.int .i64 0) := cell_of HR3.out.out 1
            have d2 : w3.cell? ⟨w.heap.size, 2, none⟩ = some (.int .i64 0) := cell_of HR3.out.out 2
            have d3 : w3.cell? ⟨w.heap.size, 3, none⟩ = some (.int .i64 0) := cell_of HR3.out.out 3
            have d4 : w3.cell? ⟨w.heap.size, 4, none⟩ = some (.int .i64 0) := cell_of HR3.out.out 4
            have f0 := frozen_of HR3.out.out 0
            have f1 := frozen_of HR3.out.out 1
            have f2 := frozen_of HR3.out.out 2
            have f3 := frozen_of HR3.out.out 3
            have f4 := frozen_of HR3.out.out 4
            have zl := lt_of_heap HR3.out.out
            clear HZ3 hs HV
            go_wp2_with fail
            rw [R.out]
            refine bodyPost_ret (results_ctN rfl rfl (v := .agg #[.int .i64 0, .int .i64 0, .int .i64 0, .int .i64 0, .int .i64 0]) ?_) rfl ⟨rfl, ?_⟩
            · go_simp
            · exact ((((HR3.out.kp.setCell _ (.inl (Nat.le_refl _)) _).setCell _ (.inl (Nat.le_refl _)) _).setCell _ (.inl (Nat.le_refl _)) _).setCell _ (.inl (Nat.le_refl _)) _).setCell _ (.inl (Nat.le_refl _)) _
        · have e0 : w3.cell? ⟨g + 1, 2, none⟩ = some (.bool s.c) := cell_of HR3.out.seen 2
          have el := lt_of_heap HR3.out.seen
          have bl := lt_of_heap HR3.out.box
          have HV : Hid (s.at 2 = s.c) := rfl
          cases hs : s.c
          · have c0 : w3.cell? ⟨g, 2, none⟩ = some (.int .i64 x.c) := cell_of HR3.out.box 2
            have f0 := frozen_of HR3.out.box 2
            have f1 := frozen_of HR3.out.seen 2
            have HP : Hid _ := HR3.out.put (k := 2) (n := (n : Int)) rfl rfl
            rw [hs] at e0 HV
            have HZ4 : Hid (Z = if fd = true then rdP (pcs r2) (x.put 2 n) (s.on 2) else some (x.put 2 n)) := by
              show _ = _
              rw [HZ3.out, HV.out]
              rfl
            clear HZ3 hs
            go_wp2_with fail
            go_roundw
            case rel => exact ⟨r2, fd, _, _, rfl, rfl, HLP.out.2, HP.out, HZ4.out⟩
            case measure =>
              have h9 := HME.out
              simp only [szV, sz]
              exact h9
          · have R : Hid (Z = none) := by
              show _ = _
              rw [HZ3.out, HV.out, hs]
              rfl
            rw [hs] at e0
            have d0 : w3.cell? ⟨w.heap.size, 0, none⟩ = some (.int .i64 0) := cell_of HR3.out.out 0
            have d1 : w3.cell? ⟨w.heap.size, 1, none⟩ = some (.int .i64 0) := cell_of HR3.out.out 1
            have d2 : w3.cell? ⟨w.heap.size, 2, none⟩ = some (.int .i64 0) := cell_of HR3.out.out 2
            have d3 : w3.cell? ⟨w.heap.size, 3, none⟩ = some (.int .i64 0) := cell_of HR3.out.out 3
            have d4 : w3.cell? ⟨w.heap.size, 4, none⟩ = some (.int .i64 0) := cell_of HR3.out.out 4
            have f0 := frozen_of HR3.out.out 0
            have f1 := frozen_of HR3.out.out 1
            have f2 := frozen_of HR3.out.out 2
            have f3 := frozen_of HR3.out.out 3
            have f4 := frozen_of HR3.out.out 4
            have zl := lt_of_heap HR3.out.out
            clear HZ3 hs HV
            go_wp2_with fail
            rw [R.out]
            refine bodyPost_ret (results_ctN rfl rfl (v := .agg #[.int .i64 0, .int .i64 0, .int .i64 0, .int .i64 0, .int .i64 0]) ?_) rfl ⟨rfl, ?_⟩
            · go_simp
            · exact ((((HR3.out.kp.setCell _ (.inl (Nat.le_refl _)) _).setCell _ (.inl (Nat.le_refl _)) _).setCell _ (.inl (Nat.le_refl _)) _).setCell _ (.inl (Nat.le_refl _)) _).setCell _ (.inl (Nat.le_refl _)) _
        · have e0 : w3.cell? ⟨g + 1, 3, none⟩ = some (.bool s.d) := cell_of HR3.out.seen 3
          have el := lt_of_heap HR3.out.seen
          have bl := lt_of_heap HR3.out.box
          have HV : Hid (s.at 3 = s.d) := rfl
          cases hs : s.d
          · have c0 : w3.cell? ⟨g, 3, none⟩ = some (.int .i64 x.d) := cell_of HR3.out.box 3
            have f0 := frozen_of HR3.out.box 3
            have f1 := frozen_of HR3.out.seen 3
            have HP : Hid _ := HR3.out.put (k := 3) (n := (n : Int)) rfl rfl
            rw [hs] at e0 HV
            have HZ4 : Hid (Z = if fd = true then rdP (pcs r2) (x.put 3 n) (s.on 3) else some (x.put 3 n)) := by
              show _ = _
              rw [HZ3.out, HV.out]
              rfl
            clear HZ3 hs
            go_wp2_with fail
            go_roundw
            case rel => exact ⟨r2, fd, _, _, rfl, rfl, HLP.out.2, HP.out, HZ4.out⟩
            case measure =>
              have h9 := HME.out
              simp only [szV, sz]
              exact h9
          · have R : Hid (Z = none) := by
              show _ = _
              rw [HZ3.out, HV.out, hs]
              rfl
            rw [hs] at e0
            have d0 : w3.cell? ⟨w.heap.size, 0, none⟩ = some (.int .i64 0) := cell_of HR3.out.out 0
            have d1 : w3.cell? ⟨w.heap.size, 1, none⟩ = some (.int .i64 0) := cell_of HR3.out.out 1
            have d2 : w3.cell? ⟨w.heap.size, 2, none⟩ = some (.int .i64 0) := cell_of HR3.out.out 2
            have d3 : w3.cell? ⟨w.heap.size, 3, none⟩ = some (.int .i64 0) := cell_of HR3.out.out 3
            have d4 : w3.cell? ⟨w.heap.size, 4, none⟩ = some (.int .i64 0) := cell_of HR3.out.out 4
            have f0 := frozen_of HR3.out.out 0
            have f1 := frozen_of HR3.out.out 1
            have f2 := frozen_of HR3.out.out 2
            have f3 := frozen_of HR3.out.out 3
            have f4 := frozen_of HR3.out.out 4
            have zl := lt_of_heap HR3.out.out
            clear HZ3 hs HV
            go_wp2_with fail
            rw [R.out]
            refine bodyPost_ret (results_ctN rfl rfl (v := .agg #[.int .i64 0, .int .i64 0, .int .i64 0, .int .i64 0, .int .i64 0]) ?_) rfl ⟨rfl, ?_⟩
            · go_simp
            · exact ((((HR3.out.kp.setCell _ (.inl (Nat.le_refl _)) _).setCell _ (.inl (Nat.le_refl _)) _).setCell _ (.inl (Nat.le_refl _)) _).setCell _ (.inl (Nat.le_refl _)) _).setCell _ (.inl (Nat.le_refl _)) _
        · have e0 : w3.cell? ⟨g + 1, 4, none⟩ = some (.bool s.e) := cell_of HR3.out.seen 4
          have el := lt_of_heap HR3.out.seen
          have bl := lt_of_heap HR3.out.box
          have HV : Hid (s.at 4 = s.e) := rfl
          cases hs : s.e
          · have c0 : w3.cell? ⟨g, 4, none⟩ = some (.int .i64 x.e) := cell_of HR3.out.box 4
            have f0 := frozen_of HR3.out.box 4
            have f1 := frozen_of HR3.out.seen 4
            have HP : Hid _ := HR3.out.put (k := 4) (n := (n : Int)) rfl rfl
            rw [hs] at e0 HV
            have HZ4 : Hid (Z = if fd = true then rdP (pcs r2) (x.put 4 n) (s.on 4) else some (x.put 4 n)) := by
              show _ = _
              rw [HZ3.out, HV.out]
              rfl
            clear HZ3 hs
            go_wp2_with fail
            go_roundw
            case rel => exact ⟨r2, fd, _, _, rfl, rfl, HLP.out.2, HP.out, HZ4.out⟩
            case measure =>
              have h9 := HME.out
              simp only [szV, sz]
              exact h9
          · have R : Hid (Z = none) := by
              show _ = _
              rw [HZ3.out, HV.out, hs]
              rfl
            rw [hs] at e0
            have d0 : w3.cell? ⟨w.heap.size, 0, none⟩ = some (.int .i64 0) := cell_of HR3.out.out 0
            have d1 : w3.cell? ⟨w.heap.size, 1, none⟩ = some (.int .i64 0) := cell_of HR3.out.out 1
            have d2 : w3.cell? ⟨w.heap.size, 2, none⟩ = some (.int .i64 0) := cell_of HR3.out.out 2
            have d3 : w3.cell? ⟨w.heap.size, 3, none⟩ = some (.int .i64 0) := cell_of HR3.out.out 3
            have d4 : w3.cell? ⟨w.heap.size, 4, none⟩ = some (.int .i64 0) := cell_of HR3.out.out 4
            have f0 := frozen_of HR3.out.out 0
            have f1 := frozen_of HR3.out.out 1
            have f2 := frozen_of HR3.out.out 2
            have f3 := frozen_of HR3.out.out 3
            have f4 := frozen_of HR3.out.out 4
            have zl := lt_of_heap HR3.out.out
            clear HZ3 hs HV
            go_wp2_with fail
            rw [R.out]
            refine bodyPost_ret (results_ctN rfl rfl (v := .agg #[.int .i64 0, .int .i64 0, .int .i64 0, .int .i64 0, .int .i64 0]) ?_) rfl ⟨rfl, ?_⟩
            · go_simp
            · exact ((((HR3.out.kp.setCell _ (.inl (Nat.le_refl _)) _).setCell _ (.inl (Nat.le_refl _)) _).setCell _ (.inl (Nat.le_refl _)) _).setCell _ (.inl (Nat.le_refl _)) _).setCell _ (.inl (Nat.le_refl _)) _
end Go.Proofs.YtolooejcgdknnaaDoor
