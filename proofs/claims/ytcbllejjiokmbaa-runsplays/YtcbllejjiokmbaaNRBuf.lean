/- What is proved: the document's buffer in memory, and what its New, Add and Take answer and leave; the buffer is one that New made. -/
import Derived.Test.YtcbllejjiokmbaaNRb
namespace Go.Proofs.Ytcbllejjiokmbaa
open Go.RowKit

/-- The document's buffer in block b, whose rows xs lie in the list v. -/
structure Rf (base : Nat) (w : World) (b : Nat) (order : Int) (bud : Nat) (v : Value) (xs : List RwM) (pk : Nat) : Prop where
  obj : w.heap[b]? = some (.cells #[.int .i64 order, .int .i64 (bud : Int), .int .i64 ((szs xs : Nat) : Int), .int .i64 (pk : Int), v] 54 (0, 0))
  own : OwnQ base w v xs
  low : base ≤ b
  right : ∀ r ∈ xs, rightR r
  fits : szs xs ≤ bud
  most : bud ≤ 16777216
theorem Rf.cells {base : Nat} {w : World} {b : Nat} {order : Int} {bud : Nat} {v : Value} {xs : List RwM} {pk : Nat} (h : Rf base w b order bud v xs pk) :
    (w.cell? ⟨b, 0, none⟩ = some (.int .i64 order) ∧ w.cell? ⟨b, 1, none⟩ = some (.int .i64 (bud : Int)) ∧ w.cell? ⟨b, 2, none⟩ = some (.int .i64 ((szs xs : Nat) : Int)) ∧ w.cell? ⟨b, 3, none⟩ = some (.int .i64 (pk : Int)) ∧ w.cell? ⟨b, 4, none⟩ = some v) ∧ w.frozen? ⟨b, 2, none⟩ = false ∧ w.frozen? ⟨b, 3, none⟩ = false ∧ w.frozen? ⟨b, 4, none⟩ = false ∧ b < w.heap.size :=
  ⟨⟨(cell_of h.obj 0).trans rfl, (cell_of h.obj 1).trans rfl, (cell_of h.obj 2).trans rfl, (cell_of h.obj 3).trans rfl, (cell_of h.obj 4).trans rfl⟩, frozen_of h.obj 2, frozen_of h.obj 3, frozen_of h.obj 4, lt_of_heap h.obj⟩
theorem Rf.ne {base : Nat} {w : World} {b : Nat} {order : Int} {bud : Nat} {v : Value} {xs : List RwM} {pk : Nat} (h : Rf base w b order bud v xs pk) {k : Nat} (hk : v.ownBlock = some k) : k ≠ b := by
  rintro rfl
  rcases h.own.2 with ⟨rfl, _⟩ | ⟨g, cap, cur, rfl, hb, hg, h1, h2, h3, h4⟩
  · simp [Value.ownBlock] at hk
  · simp [Value.ownBlock] at hk
    subst hk
    have := hg.symm.trans h.obj
    simp at this
theorem Rf.onS {S : Nat → Prop} {base : Nat} {w w' : World} {b : Nat} {order : Int} {bud : Nat} {v : Value} {xs : List RwM} {pk : Nat} (h : Rf base w b order bud v xs pk) (k : Same S w w') (h1 : ¬ S b) (h2 : ∀ g, v.ownBlock = some g → ¬ S g) : Rf base w' b order bud v xs pk :=
  ⟨(k.block _ (lt_of_heap h.obj) h1).trans h.obj, OwnQ.kept h.own k h2, h.low, h.right, h.fits, h.most⟩
theorem Rf.on {base : Nat} {w w' : World} {b : Nat} {order : Int} {bud : Nat} {v : Value} {xs : List RwM} {pk : Nat} (h : Rf base w b order bud v xs pk) (k : Kept w w') : Rf base w' b order bud v xs pk := h.onS k (fun e => e) (fun _ _ e => e)
theorem Rf.len {base : Nat} {w : World} {b : Nat} {order : Int} {bud : Nat} {v : Value} {xs : List RwM} {pk : Nat} (h : Rf base w b order bud v xs pk) : xs.length ≤ 2396745 := by
  have h1 := szs_len h.right
  have h2 := h.fits
  have h3 := h.most
  omega
set_option maxRecDepth 100000 in
theorem rnew10_order {order : Int} (ho : ¬ (order = 1 ∨ order = 2)) (bud : Int) (w : World) : Calls Try.prog 16 #[.int .i64 order, .int .i64 bud] w fun e w' => e = .returned (.tuple #[.pointer none, .int .i64 91]) ∧ w' = w := by
  by_cases h1 : order < 1
  · have d1 : decide (order < 1) = true := decide_eq_true h1
    clear ho
    go_enter Try.func16, Try.ntmps16
    go_wp2_with fail
    go_ret2
    exact ⟨rfl, rfl⟩
  · have d1 : decide (order < 1) = false := decide_eq_false h1
    have h2 : 2 < order := by omega
    have d2 : decide (2 < order) = true := decide_eq_true h2
    clear ho
    go_enter Try.func16, Try.ntmps16
    go_wp2_with fail
    go_ret2
    exact ⟨rfl, rfl⟩
set_option maxRecDepth 100000 in
theorem rnew10_bud {order : Int} (ho : order = 1 ∨ order = 2) {bud : Int} (hb : bud < 1 ∨ 16777216 < bud) (w : World) : Calls Try.prog 16 #[.int .i64 order, .int .i64 bud] w fun e w' => e = .returned (.tuple #[.pointer none, .int .i64 100]) ∧ w' = w := by
  have d1 : decide (order < 1) = false := decide_eq_false (by omega)
  have d1' : ¬ order < 1 := by omega
  have d2 : decide (2 < order) = false := decide_eq_false (by omega)
  have d2' : ¬ 2 < order := by omega
  clear ho
  by_cases h1 : bud < 1
  · have d3 : decide (bud < 1) = true := decide_eq_true h1
    clear hb
    go_enter Try.func16, Try.ntmps16
    go_wp2_with fail
    go_ret2
    exact ⟨rfl, rfl⟩
  · have d3 : decide (bud < 1) = false := decide_eq_false h1
    have h2 : 16777216 < bud := by omega
    have d4 : decide (16777216 < bud) = true := decide_eq_true h2
    clear hb
    go_enter Try.func16, Try.ntmps16
    go_wp2_with fail
    go_ret2
    exact ⟨rfl, rfl⟩
set_option maxRecDepth 100000 in
theorem rnew10_ok {order : Int} (ho : order = 1 ∨ order = 2) {bud : Nat} (h1 : 1 ≤ bud) (h2 : bud ≤ 16777216) (w : World) : Calls Try.prog 16 #[.int .i64 order, .int .i64 (bud : Int)] w fun e w' => ∃ b, e = .returned (.tuple #[.pointer (some ⟨b, 0, none⟩), .int .i64 0]) ∧ Rf w.heap.size w' b order bud (.slice none 0 0) [] 0 ∧ Kept w w' := by
  have e1 : decide (order < 1) = false := decide_eq_false (by omega)
  have e1' : ¬ order < 1 := by omega
  have e2 : decide (2 < order) = false := decide_eq_false (by omega)
  have e2' : ¬ 2 < order := by omega
  have d1 : decide ((bud : Int) < 1) = false := decide_eq_false (by omega)
  have d2 : decide ((16777216 : Int) < (bud : Int)) = false := decide_eq_false (by omega)
  have d1' : ¬ (bud : Int) < 1 := by omega
  have d2' : ¬ (16777216 : Int) < (bud : Int) := by omega
  have HM : Hid _ := h2
  clear ho h1 h2
  go_enter Try.func16, Try.ntmps16
  go_wp2_with fail
  go_ret2
  exact ⟨_, rfl, ⟨heap_new _ _, OwnQ.nil _ _, Nat.le_refl _, fun r hr => by simp at hr, Nat.zero_le _, HM.out⟩, (Same.refl _ _).alloc _⟩
set_option maxRecDepth 100000 in
set_option maxHeartbeats 1600000 in
theorem radd_no {base : Nat} {w : World} {b : Nat} {order : Int} {bud : Nat} {v : Value} {xs : List RwM} {pk : Nat} (h : Rf base w b order bud v xs pk) (r : RwM) (hc : addC bud xs r ≠ 0) :
    Calls Try.prog 18 #[.pointer (some ⟨b, 0, none⟩), rowV r] w fun e w' => e = .returned (.int .i64 (addC bud xs r)) ∧ Kept w w' := by
  have HH : Hid _ := h
  have HS : Hid (∀ W, rightR r → _) := fun W hr => bytes_ref W r hr
  have HV : Hid (∀ W, _) := fun W => validR9_any r W
  have HF : Hid _ := h.fits
  have HM : Hid _ := h.most
  have hbx := heap_new w (.cells #[.int .i64 r.kind, .int .i64 r.time, .int .i64 r.seq, .int .i64 r.index, .int .i64 r.frm, .int .i64 r.til, .string r.body] 46)
  have HBX : Hid _ := hbx
  have KB : Hid (Kept w (w.alloc (.cells #[.int .i64 r.kind, .int .i64 r.time, .int .i64 r.seq, .int .i64 r.index, .int .i64 r.frm, .int .i64 r.til, .string r.body] 46))) := (Same.refl _ w).alloc _
  unfold addC at hc ⊢
  by_cases hr : rightR r
  · rw [decide_eq_true hr] at HV
    rw [if_neg (fun e => e hr)] at hc ⊢
    obtain ⟨z, ez⟩ : ∃ z, z = (bytesR r).length := ⟨_, rfl⟩
    rw [← ez] at hc ⊢
    have HZ : Hid (∀ W, _) := fun W => HS.out W hr
    have EZ : Hid _ := ez
    have hz2 := (bytesR_len hr).2
    rw [← ez] at hz2
    have hfit := h.fits
    have hmost := h.most
    have hz3 : (z : Int) ≤ 561 := by omega
    have hs3 : ((szs xs : Nat) : Int) ≤ 16777216 := by omega
    clear hbx HS h ez hr
    obtain ⟨kind, time, seq, index, frm, til, body⟩ := r
    unfold rowV at *
    simp only at *
    obtain ⟨cd, ecd⟩ : ∃ cd, cd = (if bud < z then (101 : Int) else if bud < szs xs + z then 102 else 0) := ⟨_, rfl⟩
    rw [← ecd] at hc ⊢
    have ECD : Hid _ := ecd
    have HC : Hid _ := hc
    clear ecd hc
    go_enter Try.func18, Try.ntmps18
    go_wp2_with fail
    refine Calls.mono (HV.out _) ?_
    rintro e w1 ⟨rfl, k1⟩
    have K1 : Hid _ := KB.out.trans' k1
    have hb1 := (k1.block _ (lt_of_heap HBX.out) (fun e => e)).trans HBX.out
    have HB1 : Hid _ := hb1
    obtain ⟨⟨y0, y1, y2, y3, y4, y5, y6⟩, -⟩ := row_obj hb1
    clear k1 hb1 HBX KB
    go_wp2_with fail
    refine Calls.mono (HZ.out _) ?_
    rintro e w2 ⟨u2, rfl, o2, k2⟩
    obtain ⟨ub, uc, rfl, -, -, -, -, -⟩ := OwnB.bytes o2
    rw [← EZ.out]
    have K2 : Hid _ := K1.out.trans' k2
    clear o2 k2 y0 y1 y2 y3 y4 y5 y6 HZ HV
    obtain ⟨⟨c0, c1, c2, c3, c4⟩, -, -, -, hbl⟩ := (HH.out.on K2.out).cells
    by_cases hg : bud < z
    · have d1 : decide ((bud : Int) < (z : Int)) = true := decide_eq_true (by omega)
      have d1' : (bud : Int) < (z : Int) := by omega
      have E : Hid (cd = 101) := ECD.out.trans (if_pos hg)
      go_wp2_with fail
      go_ret
      exact ⟨congrArg (fun z => Ending.returned (Value.int IntKind.i64 z)) E.out.symm, K2.out⟩
    · have d1 : decide ((bud : Int) < (z : Int)) = false := decide_eq_false (by omega)
      have d1' : ¬ (bud : Int) < (z : Int) := by omega
      have hg2 : bud < szs xs + z := by
        have e := ECD.out
        rw [if_neg hg] at e
        by_cases g : bud < szs xs + z
        · exact g
        · rw [if_neg g] at e
          exact absurd e HC.out
      have E : Hid (cd = 102) := by
        have e := ECD.out
        rwa [if_neg hg, if_pos hg2] at e
      have d2 : decide ((bud : Int) - ((szs xs : Nat) : Int) < (z : Int)) = true := decide_eq_true (by omega)
      have d2' : (bud : Int) - ((szs xs : Nat) : Int) < (z : Int) := by omega
      have hb4 : (bud : Int) ≤ 16777216 := by omega
      generalize szs xs = sx at *
      go_wp2_with fail
      go_region
      all_goals
        go_wp2_with fail
        go_ret
        exact ⟨congrArg (fun z => Ending.returned (Value.int IntKind.i64 z)) E.out.symm, by first | exact K2.out | exact K2.out.drew⟩
  · rw [decide_eq_false hr] at HV
    rw [if_pos hr]
    clear hc h hbx HS
    obtain ⟨kind, time, seq, index, frm, til, body⟩ := r
    unfold rowV at *
    simp only at *
    clear hr
    go_enter Try.func18, Try.ntmps18
    go_wp2_with fail
    refine Calls.mono (HV.out _) ?_
    rintro e w1 ⟨rfl, k1⟩
    have K1 : Hid _ := KB.out.trans' k1
    clear k1 HBX KB
    go_wp2_with fail
    go_ret
    exact ⟨rfl, K1.out⟩
/-- What a row that is held leaves. -/
theorem Rf.more {base : Nat} {w : World} {b : Nat} {order : Int} {bud : Nat} {v : Value} {xs : List RwM} {pk : Nat} (h : Rf base w b order bud v xs pk) {r : RwM} (hr : rightR r) (hf : szs xs + (bytesR r).length ≤ bud) {W W' w3 : World} {v3 : Value} {pk' : Nat} (hW : W.heap[b]? = some (.cells #[.int .i64 order, .int .i64 (bud : Int), .int .i64 ((szs xs + (bytesR r).length : Nat) : Int), .int .i64 (pk' : Int), v] 54 (0, 0)))
    (hS : Same (fun k => k = b) w W) (k : Kept W W') (o3 : OwnQ base w3 v3 (xs ++ [r])) (k3 : Same (fun k => v.ownBlock = some k) W' w3) :
    Rf base (w3.setCell ⟨b, 4, none⟩ v3) b order bud v3 (xs ++ [r]) pk' ∧ Same (fun k => k = b ∨ v.ownBlock = some k) w (w3.setCell ⟨b, 4, none⟩ v3) := by
  have ob2 := (k.block b (lt_of_heap hW) (fun e => e)).trans hW
  have ob3 := (k3.block b (lt_of_heap ob2) (fun e => h.ne e rfl)).trans ob2
  have hs : Same (fun k => k = b) w3 (w3.setCell ⟨b, 4, none⟩ v3) := (Same.refl (fun k => k = b) w3).setCell ⟨b, 4, none⟩ (.inr rfl) v3
  have hne : ∀ g, v3.ownBlock = some g → g ≠ b := by
    rintro g hg rfl
    rcases o3.2 with ⟨rfl, _⟩ | ⟨g', cap, cur, rfl, hb, hg', _⟩
    · simp [Value.ownBlock] at hg
    · simp [Value.ownBlock] at hg
      subst hg
      have := hg'.symm.trans ob3
      simp at this
  have hz : szs (xs ++ [r]) = szs xs + (bytesR r).length := by rw [szs_append, szs_one]
  refine ⟨⟨?_, OwnQ.kept o3 hs (fun g hg e => hne g hg e), h.low, fun x hx => ?_, by rw [hz]; exact hf, h.most⟩, ((((hS.mono fun i _ e => .inl e).trans' (k.to _)).trans (k3.mono fun i _ e => .inr e) fun i _ e => e).trans hs fun i _ e => .inl e)⟩
  · rw [hz]
    exact (setCell_at ob3 _ _).trans rfl
  · rcases List.mem_append.1 hx with hx | hx
    · exact h.right x hx
    · rw [List.mem_singleton] at hx
      subst hx
      exact hr
end Go.Proofs.Ytcbllejjiokmbaa
