/- What is proved: the document's operation: a piece read; condition: its length. -/
import Derived.Test.YtlldgibpajbabaaDoorNoUp
import Derived.Test.YtlldgibpajbabaaDoorNoTr
namespace Go.Proofs.YtlldgibpajbabaaDoor
open Go.RowKit

/-- The key's text of a piece, and what stands behind it. -/
def opK (p : List UInt8) : List UInt8 := (p.drop 2).take (upT p 0 41 - 2)
def opZ (p : List UInt8) : List UInt8 := p.drop (upT p 0 41 + 1)
/-- The operation that a piece writes, its letter given. -/
def opY (c : UInt8) (p : List UInt8) : Option OpM :=
  if upT p 0 41 = p.length then none else match uwd (opK p) with
  | none => none
  | some k => if c = 100 then (if opZ p = [] then some ⟨3, bts k, false, bts []⟩ else none)
    else if Lib.hasPrefix (opZ p) [61] = false then none
    else if c = 114 ∧ opZ p = [61, 45] then some ⟨1, bts k, false, bts []⟩
    else match uwd ((opZ p).drop 1) with
      | none => none
      | some v => some ⟨if c = 119 then 2 else 1, bts k, true, bts v⟩
/-- The operation that a piece writes. -/
def opX (p : List UInt8) : Option OpM := if Lib.hasPrefix p [114, 40] = true then opY 114 p else if Lib.hasPrefix p [119, 40] = true then opY 119 p else if Lib.hasPrefix p [100, 40] = true then opY 100 p else none
theorem upT_two {c : UInt8} {q : List UInt8} (hc : c ≠ 41) : 2 ≤ upT (c :: 40 :: q) 0 41 ∧ upT (c :: 40 :: q) 0 41 ≤ q.length + 2 := by
  rw [upT_more (b := c) rfl hc, upT_more (b := 40) rfl (by decide)]
  have := upT_le (c :: 40 :: q) (k := 2) 41 (by simp)
  simp at this
  omega
/-- The result's box and the operation's box, since w. -/
structure Bo (w W : World) (u0 u1 u2 u3 : Value) : Prop where
  b2 : W.heap[w.heap.size]? = some (opO (.int .i64 0) (.string ⟨#[]⟩) (.bool false) (.string ⟨#[]⟩))
  b4 : W.heap[w.heap.size + 1]? = some (opO u0 u1 u2 u3)
  kp : Kept w W
theorem Bo.start (w : World) : Bo w ((w.alloc (opO (.int .i64 0) (.string ⟨#[]⟩) (.bool false) (.string ⟨#[]⟩))).alloc (opO (.int .i64 0) (.string ⟨#[]⟩) (.bool false) (.string ⟨#[]⟩))) (.int .i64 0) (.string ⟨#[]⟩) (.bool false) (.string ⟨#[]⟩) :=
  ⟨(two_new w _ _).1, (two_new w _ _).2, ((Same.refl _ w).alloc _).alloc _⟩
theorem Bo.on {w W W' : World} {u0 u1 u2 u3 : Value} (h : Bo w W u0 u1 u2 u3) (k : Kept W W') : Bo w W' u0 u1 u2 u3 :=
  ⟨(k.block _ (lt_of_heap h.b2) (fun e => e)).trans h.b2, (k.block _ (lt_of_heap h.b4) (fun e => e)).trans h.b4, h.kp.trans' k⟩
theorem Bo.set {w W : World} {u0 u1 u2 u3 v0 v1 v2 v3 : Value} (h : Bo w W u0 u1 u2 u3) (i : Nat) (v : Value) (e : (#[u0, u1, u2, u3] : Array Value).setIfInBounds i v = #[v0, v1, v2, v3]) : Bo w (W.setCell ⟨w.heap.size + 1, i, none⟩ v) v0 v1 v2 v3 :=
  have k : Same (fun j => j = w.heap.size + 1) W (W.setCell ⟨w.heap.size + 1, i, none⟩ v) := (Same.refl (fun j => j = w.heap.size + 1) W).setCell _ (.inr rfl) _
  ⟨(k.block _ (lt_of_heap h.b2) (by omega)).trans h.b2, (setCell_at h.b4 i v).trans (by unfold opO; rw [e]), Same.trans h.kp k (fun i hi e => by omega)⟩
theorem Bo.done {w W : World} {u0 u1 u2 u3 : Value} (h : Bo w W u0 u1 u2 u3) (o : OpM) : (loadVar 49 ⟨w.heap.size, 0, none⟩).run Tryd.prog (put4 W w.heap.size (.int .i64 o.kind) (.string o.key) (.bool o.found) (.string o.value)) = .ok (opV o) (put4 W w.heap.size (.int .i64 o.kind) (.string o.key) (.bool o.found) (.string o.value)) ∧ Kept w (put4 W w.heap.size (.int .i64 o.kind) (.string o.key) (.bool o.found) (.string o.value)) :=
  ⟨loadVar_op (put4_at h.b2 _ _ _ _), Same.trans h.kp (put4_same ..) (fun i hi e => by omega)⟩
/-- What operation answers. -/
def OpP (w : World) (p : List UInt8) (e : Ending) (w' : World) : Prop := ∃ o', e = .returned (.tuple #[opV o', .bool (opX p).isSome]) ∧ (∀ o, opX p = some o → o' = o) ∧ Kept w w'
set_option maxRecDepth 100000 in
set_option maxHeartbeats 3200000 in
theorem operation_d (q : List UInt8) (w : World) (hl : (100 :: 40 :: q).length ≤ 140737488351232) : Calls Tryd.prog 39 #[tx (100 :: 40 :: q)] w (OpP w (100 :: 40 :: q)) := by
  unfold OpP
  have EX0 : opX (100 :: 40 :: q) = opY 100 (100 :: 40 :: q) := by
    unfold opX
    simp [Lib.hasPrefix, List.isPrefixOf]
  have EY : Hid (opY 100 (100 :: 40 :: q) = _) := rfl
  have hu := upT_two (c := 100) (q := q) (by decide)
  have HB : Hid (∀ p w, p.length ≤ 281474976710656 → Calls Tryd.prog 37 #[tx (100 :: 40 :: q), .int .i64 0, tx p] w fun e w' => e = .returned (.bool (Lib.hasPrefix (100 :: 40 :: q) p)) ∧ w' = w) := fun p w hp => begins_any (100 :: 40 :: q) 0 p w (by simp) (by omega) hp
  have N1 : Lib.hasPrefix (100 :: 40 :: q) [114, 40] = false := by simp [Lib.hasPrefix, List.isPrefixOf]
  have N2 : Lib.hasPrefix (100 :: 40 :: q) [119, 40] = false := by simp [Lib.hasPrefix, List.isPrefixOf]
  have N3 : Lib.hasPrefix (100 :: 40 :: q) [100, 40] = true := by simp [Lib.hasPrefix, List.isPrefixOf]
  have HU : Hid (∀ w, Calls Tryd.prog 28 #[tx (100 :: 40 :: q), .int .i64 0, .int .u8 41] w _) := fun w => upTo_any (100 :: 40 :: q) 0 41 w (by simp) (by omega)
  have HK : Hid (∀ w, _) := fun w => runword_any (opK (100 :: 40 :: q)) w (Nat.le_trans (by unfold opK; rw [List.length_take, List.length_drop]; omega) hl)
  have hix : ∀ w, (Instr.index 9 (tx (100 :: 40 :: q)) (.int .i64 0)).run Tryd.prog w = .ok (.int .u8 100) w := fun w => idx_tx (l := (100 :: 40 :: q)) (i := 0) (b := 100) rfl w
  have hs1 : ∀ w, (Instr.slice 9 (tx (100 :: 40 :: q)) (some (.int .i64 2)) (some (.int .i64 (upT (100 :: 40 :: q) 0 41 : Nat))) none).run Tryd.prog w = .ok (tx (opK (100 :: 40 :: q))) w := fun w => mid_tx (100 :: 40 :: q) 2 (upT (100 :: 40 :: q) 0 41) hu.1 (by simp; omega) w
  have HS2 : Hid (upT (100 :: 40 :: q) 0 41 ≠ (100 :: 40 :: q).length → ∀ w, (Instr.slice 9 (tx (100 :: 40 :: q)) (some (.int .i64 ((upT (100 :: 40 :: q) 0 41 : Nat) + 1))) none none).run Tryd.prog w = .ok (tx (opZ (100 :: 40 :: q))) w) := fun hne w => by
    have h2 : upT (100 :: 40 :: q) 0 41 + 1 ≤ (100 :: 40 :: q).length := by simp at hne ⊢; omega
    exact from_tx (100 :: 40 :: q) (upT (100 :: 40 :: q) 0 41 + 1) h2 w
  have hZ : (opZ (100 :: 40 :: q)).length ≤ 140737488351232 := Nat.le_trans (by unfold opZ; rw [List.length_drop]; omega) hl
  have hlen : (100 :: 40 :: q).length = q.length + 2 := rfl
  unfold opY at EY
  generalize opX (100 :: 40 :: q) = X at *
  have EX : Hid _ := EX0.trans EY.out
  clear EX0 EY
  generalize opK (100 :: 40 :: q) = KT at *
  generalize opZ (100 :: 40 :: q) = ZT at *
  generalize upT (100 :: 40 :: q) 0 41 = E at *
  generalize (100 :: 40 :: q) = L at *
  obtain ⟨W0, e0⟩ : ∃ W0, W0 = (w.alloc (.cells #[.int .i64 0, .string ⟨#[]⟩, .bool false, .string ⟨#[]⟩] 49 (0, 0))).alloc (.cells #[.int .i64 0, .string ⟨#[]⟩, .bool false, .string ⟨#[]⟩] 49 (0, 0)) := ⟨_, rfl⟩
  have T0 : Hid (Bo w W0 (.int .i64 0) (.string ⟨#[]⟩) (.bool false) (.string ⟨#[]⟩)) := by rw [e0]; exact Bo.start w
  have HR : Hid (∀ w, _) := fun w => runword_any (ZT.drop 1) w (Nat.le_trans (by rw [List.length_drop]; omega) hZ)
  generalize hD : ZT.drop 1 = ZD at HR EX
  have ED : Hid (ZT.drop 1 = ZD) := hD
  clear hD
  have HBZ : Hid (∀ w, Calls Tryd.prog 37 #[tx ZT, .int .i64 0, tx [61]] w fun e w' => e = .returned (.bool (Lib.hasPrefix ZT [61])) ∧ w' = w) := fun w => begins_any ZT 0 [61] w (by simp) (by omega) (by decide)
  have wE : wrap64 ((E : Int) + 1) = (E : Int) + 1 := by unfold wrap64; omega
  go_enter Tryd.func39, Tryd.ntmps39
  go_upto_region 2 with fail
  rw [← e0]
  clear e0
  go_wp2_with fail
  refine Calls.mono (HB.out [114, 40] _ (by decide)) ?_
  rintro e w1 ⟨rfl, e1⟩
  subst e1
  rw [N1]
  go_wp2_with fail
  refine Calls.mono (HB.out [119, 40] _ (by decide)) ?_
  rintro e w1 ⟨rfl, e1⟩
  subst e1
  rw [N2]
  go_wp2_with fail
  refine Calls.mono (HB.out [100, 40] _ (by decide)) ?_
  rintro e w1 ⟨rfl, e1⟩
  subst e1
  rw [N3]
  go_wp2_with fail
  refine Calls.mono (HU.out _) ?_
  rintro e w1 ⟨rfl, e1⟩
  subst e1
  obtain ⟨⟨d0, d1, d2, d3⟩, g0, g1, g2, g3⟩ := op_obj T0.out.b2
  obtain ⟨⟨x0, x1, x2, x3⟩, h0, h1, h2, h3⟩ := op_obj T0.out.b4
  have ld := lt_of_heap T0.out.b2
  have lx := lt_of_heap T0.out.b4
  by_cases hE : E = L.length
  · have q1 : ((E : Int) == (L.length : Int)) = true := by rw [hE]; simp
    have EX2 : Hid (X = none) := EX.out.trans (if_pos hE)
    clear hE
    go_wp2_with fail
    refine bodyPost_ret (results_ct (a := 2) (b := 3) (t := 49) rfl rfl (T0.out.done ⟨0, ⟨#[]⟩, false, ⟨#[]⟩⟩).1) rfl ?_
    rw [EX2.out]
    exact ⟨_, rfl, fun o h => by (cases h), (T0.out.done ⟨0, ⟨#[]⟩, false, ⟨#[]⟩⟩).2⟩
  · have q1 : ((E : Int) == (L.length : Int)) = false := beq_eq_false_iff_ne.2 (fun e => hE (by omega))
    have hs2 := HS2.out hE
    have EX2 : Hid _ := EX.out.trans (if_neg hE)
    clear hE HS2 EX
    go_wp2_with fail
    refine Calls.mono (HK.out _) ?_
    rintro e w2 ⟨rfl, k2⟩
    have T2 : Hid (Bo w w2 (.int .i64 0) (.string ⟨#[]⟩) (.bool false) (.string ⟨#[]⟩)) := T0.out.on k2
    clear k2 T0 HK HU HB d0 d1 d2 d3 g0 g1 g2 g3 x0 x1 x2 x3 h0 h1 h2 h3 ld lx
    generalize uwd KT = ok at *
    cases ok with
    | none =>
      have EX3 : Hid (X = none) := EX2.out
      clear EX2
      simp only [ruV]
      obtain ⟨⟨d0, d1, d2, d3⟩, g0, g1, g2, g3⟩ := op_obj T2.out.b2
      obtain ⟨⟨x0, x1, x2, x3⟩, h0, h1, h2, h3⟩ := op_obj T2.out.b4
      have ld := lt_of_heap T2.out.b2
      have lx := lt_of_heap T2.out.b4
      go_wp2_with fail
      refine bodyPost_ret (results_ct (a := 2) (b := 3) (t := 49) rfl rfl (T2.out.done ⟨0, ⟨#[]⟩, false, ⟨#[]⟩⟩).1) rfl ?_
      rw [EX3.out]
      exact ⟨_, rfl, fun o h => by (cases h), (T2.out.done ⟨0, ⟨#[]⟩, false, ⟨#[]⟩⟩).2⟩
    | some k =>
      dsimp only at EX2
      simp only [ruV]
      obtain ⟨W3, e3⟩ : ∃ W3, W3 = w2.setCell ⟨w.heap.size + 1, 1, none⟩ (tx k) := ⟨_, rfl⟩
      have T3 : Hid (Bo w W3 (.int .i64 0) (tx k) (.bool false) (.string ⟨#[]⟩)) := by rw [e3]; exact T2.out.set 1 _ rfl
      obtain ⟨⟨d0, d1, d2, d3⟩, g0, g1, g2, g3⟩ := op_obj T2.out.b2
      obtain ⟨⟨x0, x1, x2, x3⟩, h0, h1, h2, h3⟩ := op_obj T2.out.b4
      have ld := lt_of_heap T2.out.b2
      have lx := lt_of_heap T2.out.b4
      go_upto_region 11 with fail
      rw [← e3]
      clear e3 T2 d0 d1 d2 d3 g0 g1 g2 g3 x0 x1 x2 x3 h0 h1 h2 h3 ld lx
      obtain ⟨W4, e4⟩ : ∃ W4, W4 = W3.setCell ⟨w.heap.size + 1, 0, none⟩ (.int .i64 3) := ⟨_, rfl⟩
      have T4 : Hid (Bo w W4 (.int .i64 3) (tx k) (.bool false) (.string ⟨#[]⟩)) := by rw [e4]; exact T3.out.set 0 _ rfl
      obtain ⟨⟨d0, d1, d2, d3⟩, g0, g1, g2, g3⟩ := op_obj T3.out.b2
      obtain ⟨⟨x0, x1, x2, x3⟩, h0, h1, h2, h3⟩ := op_obj T3.out.b4
      have ld := lt_of_heap T3.out.b2
      have lx := lt_of_heap T3.out.b4
      rw [if_pos trivial] at EX2
      go_upto_region 14 with fail
      rw [← e4]
      clear e4 T3 d0 d1 d2 d3 g0 g1 g2 g3 x0 x1 x2 x3 h0 h1 h2 h3 ld lx
      obtain ⟨⟨d0, d1, d2, d3⟩, g0, g1, g2, g3⟩ := op_obj T4.out.b2
      obtain ⟨⟨x0, x1, x2, x3⟩, h0, h1, h2, h3⟩ := op_obj T4.out.b4
      have ld := lt_of_heap T4.out.b2
      have lx := lt_of_heap T4.out.b4
      by_cases hz : ZT = []
      · have EX3 : Hid (X = some ⟨3, bts k, false, bts []⟩) := EX2.out.trans (if_pos hz)
        have q2 : ((ZT.length : Int) == 0) = true := by rw [hz]; rfl
        clear hz EX2
        go_wp2_with fail
        refine bodyPost_ret (results_ct (a := 2) (b := 3) (t := 49) rfl rfl (T4.out.done ⟨3, bts k, false, bts []⟩).1) rfl ?_
        rw [EX3.out]
        exact ⟨_, rfl, fun o h => by (cases h; rfl), (T4.out.done ⟨3, bts k, false, bts []⟩).2⟩
      · have EX3 : Hid (X = none) := EX2.out.trans (if_neg hz)
        have q2 : ((ZT.length : Int) == 0) = false := beq_eq_false_iff_ne.2 (fun e => hz (List.eq_nil_of_length_eq_zero (by omega)))
        clear hz EX2
        go_wp2_with fail
        refine bodyPost_ret (results_ct (a := 2) (b := 3) (t := 49) rfl rfl (T4.out.done ⟨3, bts k, false, bts []⟩).1) rfl ?_
        rw [EX3.out]
        exact ⟨_, rfl, fun o h => by (cases h), (T4.out.done ⟨3, bts k, false, bts []⟩).2⟩
set_option maxRecDepth 100000 in
set_option maxHeartbeats 3200000 in
theorem operation_r (q : List UInt8) (w : World) (hl : (114 :: 40 :: q).length ≤ 140737488351232) : Calls Tryd.prog 39 #[tx (114 :: 40 :: q)] w (OpP w (114 :: 40 :: q)) := by
  unfold OpP
  have EX0 : opX (114 :: 40 :: q) = opY 114 (114 :: 40 :: q) := by
    unfold opX
    simp [Lib.hasPrefix, List.isPrefixOf]
  have EY : Hid (opY 114 (114 :: 40 :: q) = _) := rfl
  have hu := upT_two (c := 114) (q := q) (by decide)
  have HB : Hid (∀ p w, p.length ≤ 281474976710656 → Calls Tryd.prog 37 #[tx (114 :: 40 :: q), .int .i64 0, tx p] w fun e w' => e = .returned (.bool (Lib.hasPrefix (114 :: 40 :: q) p)) ∧ w' = w) := fun p w hp => begins_any (114 :: 40 :: q) 0 p w (by simp) (by omega) hp
  have N1 : Lib.hasPrefix (114 :: 40 :: q) [114, 40] = true := by simp [Lib.hasPrefix, List.isPrefixOf]
  have N2 : Lib.hasPrefix (114 :: 40 :: q) [119, 40] = false := by simp [Lib.hasPrefix, List.isPrefixOf]
  have N3 : Lib.hasPrefix (114 :: 40 :: q) [100, 40] = false := by simp [Lib.hasPrefix, List.isPrefixOf]
  have HU : Hid (∀ w, Calls Tryd.prog 28 #[tx (114 :: 40 :: q), .int .i64 0, .int .u8 41] w _) := fun w => upTo_any (114 :: 40 :: q) 0 41 w (by simp) (by omega)
  have HK : Hid (∀ w, _) := fun w => runword_any (opK (114 :: 40 :: q)) w (Nat.le_trans (by unfold opK; rw [List.length_take, List.length_drop]; omega) hl)
  have hix : ∀ w, (Instr.index 9 (tx (114 :: 40 :: q)) (.int .i64 0)).run Tryd.prog w = .ok (.int .u8 114) w := fun w => idx_tx (l := (114 :: 40 :: q)) (i := 0) (b := 114) rfl w
  have hs1 : ∀ w, (Instr.slice 9 (tx (114 :: 40 :: q)) (some (.int .i64 2)) (some (.int .i64 (upT (114 :: 40 :: q) 0 41 : Nat))) none).run Tryd.prog w = .ok (tx (opK (114 :: 40 :: q))) w := fun w => mid_tx (114 :: 40 :: q) 2 (upT (114 :: 40 :: q) 0 41) hu.1 (by simp; omega) w
  have HS2 : Hid (upT (114 :: 40 :: q) 0 41 ≠ (114 :: 40 :: q).length → ∀ w, (Instr.slice 9 (tx (114 :: 40 :: q)) (some (.int .i64 ((upT (114 :: 40 :: q) 0 41 : Nat) + 1))) none none).run Tryd.prog w = .ok (tx (opZ (114 :: 40 :: q))) w) := fun hne w => by
    have h2 : upT (114 :: 40 :: q) 0 41 + 1 ≤ (114 :: 40 :: q).length := by simp at hne ⊢; omega
    exact from_tx (114 :: 40 :: q) (upT (114 :: 40 :: q) 0 41 + 1) h2 w
  have hZ : (opZ (114 :: 40 :: q)).length ≤ 140737488351232 := Nat.le_trans (by unfold opZ; rw [List.length_drop]; omega) hl
  have hlen : (114 :: 40 :: q).length = q.length + 2 := rfl
  unfold opY at EY
  generalize opX (114 :: 40 :: q) = X at *
  have EX : Hid _ := EX0.trans EY.out
  clear EX0 EY
  generalize opK (114 :: 40 :: q) = KT at *
  generalize opZ (114 :: 40 :: q) = ZT at *
  generalize upT (114 :: 40 :: q) 0 41 = E at *
  generalize (114 :: 40 :: q) = L at *
  obtain ⟨W0, e0⟩ : ∃ W0, W0 = (w.alloc (.cells #[.int .i64 0, .string ⟨#[]⟩, .bool false, .string ⟨#[]⟩] 49 (0, 0))).alloc (.cells #[.int .i64 0, .string ⟨#[]⟩, .bool false, .string ⟨#[]⟩] 49 (0, 0)) := ⟨_, rfl⟩
  have T0 : Hid (Bo w W0 (.int .i64 0) (.string ⟨#[]⟩) (.bool false) (.string ⟨#[]⟩)) := by rw [e0]; exact Bo.start w
  have HR : Hid (∀ w, _) := fun w => runword_any (ZT.drop 1) w (Nat.le_trans (by rw [List.length_drop]; omega) hZ)
  generalize hD : ZT.drop 1 = ZD at HR EX
  have ED : Hid (ZT.drop 1 = ZD) := hD
  clear hD
  have HBZ : Hid (∀ w, Calls Tryd.prog 37 #[tx ZT, .int .i64 0, tx [61]] w fun e w' => e = .returned (.bool (Lib.hasPrefix ZT [61])) ∧ w' = w) := fun w => begins_any ZT 0 [61] w (by simp) (by omega) (by decide)
  have wE : wrap64 ((E : Int) + 1) = (E : Int) + 1 := by unfold wrap64; omega
  go_enter Tryd.func39, Tryd.ntmps39
  go_upto_region 2 with fail
  rw [← e0]
  clear e0
  go_wp2_with fail
  refine Calls.mono (HB.out [114, 40] _ (by decide)) ?_
  rintro e w1 ⟨rfl, e1⟩
  subst e1
  rw [N1]
  go_wp2_with fail
  refine Calls.mono (HU.out _) ?_
  rintro e w1 ⟨rfl, e1⟩
  subst e1
  obtain ⟨⟨d0, d1, d2, d3⟩, g0, g1, g2, g3⟩ := op_obj T0.out.b2
  obtain ⟨⟨x0, x1, x2, x3⟩, h0, h1, h2, h3⟩ := op_obj T0.out.b4
  have ld := lt_of_heap T0.out.b2
  have lx := lt_of_heap T0.out.b4
  by_cases hE : E = L.length
  · have q1 : ((E : Int) == (L.length : Int)) = true := by rw [hE]; simp
    have EX2 : Hid (X = none) := EX.out.trans (if_pos hE)
    clear hE
    go_wp2_with fail
    refine bodyPost_ret (results_ct (a := 2) (b := 3) (t := 49) rfl rfl (T0.out.done ⟨0, ⟨#[]⟩, false, ⟨#[]⟩⟩).1) rfl ?_
    rw [EX2.out]
    exact ⟨_, rfl, fun o h => by (cases h), (T0.out.done ⟨0, ⟨#[]⟩, false, ⟨#[]⟩⟩).2⟩
  · have q1 : ((E : Int) == (L.length : Int)) = false := beq_eq_false_iff_ne.2 (fun e => hE (by omega))
    have hs2 := HS2.out hE
    have EX2 : Hid _ := EX.out.trans (if_neg hE)
    clear hE HS2 EX
    go_wp2_with fail
    refine Calls.mono (HK.out _) ?_
    rintro e w2 ⟨rfl, k2⟩
    have T2 : Hid (Bo w w2 (.int .i64 0) (.string ⟨#[]⟩) (.bool false) (.string ⟨#[]⟩)) := T0.out.on k2
    clear k2 T0 HK HU HB d0 d1 d2 d3 g0 g1 g2 g3 x0 x1 x2 x3 h0 h1 h2 h3 ld lx
    generalize uwd KT = ok at *
    cases ok with
    | none =>
      have EX3 : Hid (X = none) := EX2.out
      clear EX2
      simp only [ruV]
      obtain ⟨⟨d0, d1, d2, d3⟩, g0, g1, g2, g3⟩ := op_obj T2.out.b2
      obtain ⟨⟨x0, x1, x2, x3⟩, h0, h1, h2, h3⟩ := op_obj T2.out.b4
      have ld := lt_of_heap T2.out.b2
      have lx := lt_of_heap T2.out.b4
      go_wp2_with fail
      refine bodyPost_ret (results_ct (a := 2) (b := 3) (t := 49) rfl rfl (T2.out.done ⟨0, ⟨#[]⟩, false, ⟨#[]⟩⟩).1) rfl ?_
      rw [EX3.out]
      exact ⟨_, rfl, fun o h => by (cases h), (T2.out.done ⟨0, ⟨#[]⟩, false, ⟨#[]⟩⟩).2⟩
    | some k =>
      dsimp only at EX2
      simp only [ruV]
      obtain ⟨W3, e3⟩ : ∃ W3, W3 = w2.setCell ⟨w.heap.size + 1, 1, none⟩ (tx k) := ⟨_, rfl⟩
      have T3 : Hid (Bo w W3 (.int .i64 0) (tx k) (.bool false) (.string ⟨#[]⟩)) := by rw [e3]; exact T2.out.set 1 _ rfl
      obtain ⟨⟨d0, d1, d2, d3⟩, g0, g1, g2, g3⟩ := op_obj T2.out.b2
      obtain ⟨⟨x0, x1, x2, x3⟩, h0, h1, h2, h3⟩ := op_obj T2.out.b4
      have ld := lt_of_heap T2.out.b2
      have lx := lt_of_heap T2.out.b4
      go_upto_region 11 with fail
      rw [← e3]
      clear e3 T2 d0 d1 d2 d3 g0 g1 g2 g3 x0 x1 x2 x3 h0 h1 h2 h3 ld lx
      obtain ⟨W4, e4⟩ : ∃ W4, W4 = W3.setCell ⟨w.heap.size + 1, 0, none⟩ (.int .i64 1) := ⟨_, rfl⟩
      have T4 : Hid (Bo w W4 (.int .i64 1) (tx k) (.bool false) (.string ⟨#[]⟩)) := by rw [e4]; exact T3.out.set 0 _ rfl
      obtain ⟨⟨d0, d1, d2, d3⟩, g0, g1, g2, g3⟩ := op_obj T3.out.b2
      obtain ⟨⟨x0, x1, x2, x3⟩, h0, h1, h2, h3⟩ := op_obj T3.out.b4
      have ld := lt_of_heap T3.out.b2
      have lx := lt_of_heap T3.out.b4
      rw [if_neg (show ¬ (114 : UInt8) = 100 by decide)] at EX2
      go_upto_region 16 with fail
      rw [← e4]
      clear e4 T3 d0 d1 d2 d3 g0 g1 g2 g3 x0 x1 x2 x3 h0 h1 h2 h3 ld lx
      obtain ⟨⟨d0, d1, d2, d3⟩, g0, g1, g2, g3⟩ := op_obj T4.out.b2
      obtain ⟨⟨x0, x1, x2, x3⟩, h0, h1, h2, h3⟩ := op_obj T4.out.b4
      have ld := lt_of_heap T4.out.b2
      have lx := lt_of_heap T4.out.b4
      go_wp2_with fail
      refine Calls.mono (HBZ.out _) ?_
      rintro e w5 ⟨rfl, e5⟩
      subst e5
      cases hb : Lib.hasPrefix ZT [61] with
      | false =>
        have EX3 : Hid (X = none) := EX2.out.trans (if_pos hb)
        clear EX2
        go_wp2_with fail
        refine bodyPost_ret (results_ct (a := 2) (b := 3) (t := 49) rfl rfl (T4.out.done ⟨1, bts k, false, bts []⟩).1) rfl ?_
        rw [EX3.out]
        exact ⟨_, rfl, fun o h => by (cases h), (T4.out.done ⟨1, bts k, false, bts []⟩).2⟩
      | true =>
        have EX3 : Hid _ := EX2.out.trans (if_neg (by rw [hb]; decide))
        clear EX2
        have hz1 : 1 ≤ ZT.length := by
          have := has_iff ZT [61]
          rw [hb] at this
          simp at this
          omega
        have hs3 : ∀ w, (Instr.slice 9 (tx ZT) (some (.int .i64 1)) none none).run Tryd.prog w = .ok (tx ZD) w := fun w => by rw [← ED.out]; exact from_tx ZT 1 hz1 w
        by_cases hz : ZT = [61, 45]
        · have EX4 : Hid (X = some ⟨1, bts k, false, bts []⟩) := EX3.out.trans (if_pos ⟨trivial, hz⟩)
          clear EX3
          subst hz
          go_wp2_with fail
          refine bodyPost_ret (results_ct (a := 2) (b := 3) (t := 49) rfl rfl (T4.out.done ⟨1, bts k, false, bts []⟩).1) rfl ?_
          rw [EX4.out]
          exact ⟨_, rfl, fun o h => by (cases h; rfl), (T4.out.done ⟨1, bts k, false, bts []⟩).2⟩
        have EX4 : Hid _ := EX3.out.trans (if_neg (fun h => hz h.2))
        have q3 : (ZT == [61, 45]) = false := beq_eq_false_iff_ne.2 hz
        clear EX3
        go_wp2_with fail
        refine Calls.mono (HR.out _) ?_
        rintro e w6 ⟨rfl, k6⟩
        have T6 : Hid (Bo w w6 (.int .i64 1) (tx k) (.bool false) (.string ⟨#[]⟩)) := T4.out.on k6
        clear k6 T4 HR HBZ d0 d1 d2 d3 g0 g1 g2 g3 x0 x1 x2 x3 h0 h1 h2 h3 ld lx
        generalize uwd ZD = ov at *
        cases ov with
        | none =>
          have EX5 : Hid (X = none) := EX4.out
          clear EX4
          simp only [ruV]
          obtain ⟨W7, e7⟩ : ∃ W7, W7 = (w6.setCell ⟨w.heap.size + 1, 2, none⟩ (.bool true)).setCell ⟨w.heap.size + 1, 3, none⟩ (tx []) := ⟨_, rfl⟩
          have T7 : Hid (Bo w W7 (.int .i64 1) (tx k) (.bool true) (tx [])) := by rw [e7]; exact (T6.out.set (v0 := .int .i64 1) (v1 := tx k) (v2 := .bool true) (v3 := .string ⟨#[]⟩) 2 _ rfl).set 3 _ rfl
          obtain ⟨⟨d0, d1, d2, d3⟩, g0, g1, g2, g3⟩ := op_obj T6.out.b2
          obtain ⟨⟨x0, x1, x2, x3⟩, h0, h1, h2, h3⟩ := op_obj T6.out.b4
          have ld := lt_of_heap T6.out.b2
          have lx := lt_of_heap T6.out.b4
          go_upto_region 25 with fail
          rw [← e7]
          clear e7 T6 d0 d1 d2 d3 g0 g1 g2 g3 x0 x1 x2 x3 h0 h1 h2 h3 ld lx
          obtain ⟨⟨d0, d1, d2, d3⟩, g0, g1, g2, g3⟩ := op_obj T7.out.b2
          obtain ⟨⟨x0, x1, x2, x3⟩, h0, h1, h2, h3⟩ := op_obj T7.out.b4
          have ld := lt_of_heap T7.out.b2
          have lx := lt_of_heap T7.out.b4
          go_wp2_with fail
          refine bodyPost_ret (results_ct (a := 2) (b := 3) (t := 49) rfl rfl (T7.out.done ⟨1, bts k, true, bts []⟩).1) rfl ?_
          rw [EX5.out]
          exact ⟨_, rfl, fun o h => by (cases h), (T7.out.done ⟨1, bts k, true, bts []⟩).2⟩
        | some v =>
          have EX5 : Hid (X = some ⟨1, bts k, true, bts v⟩) := EX4.out
          clear EX4
          simp only [ruV]
          obtain ⟨W7, e7⟩ : ∃ W7, W7 = (w6.setCell ⟨w.heap.size + 1, 2, none⟩ (.bool true)).setCell ⟨w.heap.size + 1, 3, none⟩ (tx v) := ⟨_, rfl⟩
          have T7 : Hid (Bo w W7 (.int .i64 1) (tx k) (.bool true) (tx v)) := by rw [e7]; exact (T6.out.set (v0 := .int .i64 1) (v1 := tx k) (v2 := .bool true) (v3 := .string ⟨#[]⟩) 2 _ rfl).set 3 _ rfl
          obtain ⟨⟨d0, d1, d2, d3⟩, g0, g1, g2, g3⟩ := op_obj T6.out.b2
          obtain ⟨⟨x0, x1, x2, x3⟩, h0, h1, h2, h3⟩ := op_obj T6.out.b4
          have ld := lt_of_heap T6.out.b2
          have lx := lt_of_heap T6.out.b4
          go_upto_region 25 with fail
          rw [← e7]
          clear e7 T6 d0 d1 d2 d3 g0 g1 g2 g3 x0 x1 x2 x3 h0 h1 h2 h3 ld lx
          obtain ⟨⟨d0, d1, d2, d3⟩, g0, g1, g2, g3⟩ := op_obj T7.out.b2
          obtain ⟨⟨x0, x1, x2, x3⟩, h0, h1, h2, h3⟩ := op_obj T7.out.b4
          have ld := lt_of_heap T7.out.b2
          have lx := lt_of_heap T7.out.b4
          go_wp2_with fail
          refine bodyPost_ret (results_ct (a := 2) (b := 3) (t := 49) rfl rfl (T7.out.done ⟨1, bts k, true, bts v⟩).1) rfl ?_
          rw [EX5.out]
          exact ⟨_, rfl, fun o h => by (cases h; rfl), (T7.out.done ⟨1, bts k, true, bts v⟩).2⟩
set_option maxRecDepth 100000 in
set_option maxHeartbeats 3200000 in
theorem operation_w (q : List UInt8) (w : World) (hl : (119 :: 40 :: q).length ≤ 140737488351232) : Calls Tryd.prog 39 #[tx (119 :: 40 :: q)] w (OpP w (119 :: 40 :: q)) := by
  unfold OpP
  have EX0 : opX (119 :: 40 :: q) = opY 119 (119 :: 40 :: q) := by
    unfold opX
    simp [Lib.hasPrefix, List.isPrefixOf]
  have EY : Hid (opY 119 (119 :: 40 :: q) = _) := rfl
  have hu := upT_two (c := 119) (q := q) (by decide)
  have HB : Hid (∀ p w, p.length ≤ 281474976710656 → Calls Tryd.prog 37 #[tx (119 :: 40 :: q), .int .i64 0, tx p] w fun e w' => e = .returned (.bool (Lib.hasPrefix (119 :: 40 :: q) p)) ∧ w' = w) := fun p w hp => begins_any (119 :: 40 :: q) 0 p w (by simp) (by omega) hp
  have N1 : Lib.hasPrefix (119 :: 40 :: q) [114, 40] = false := by simp [Lib.hasPrefix, List.isPrefixOf]
  have N2 : Lib.hasPrefix (119 :: 40 :: q) [119, 40] = true := by simp [Lib.hasPrefix, List.isPrefixOf]
  have N3 : Lib.hasPrefix (119 :: 40 :: q) [100, 40] = false := by simp [Lib.hasPrefix, List.isPrefixOf]
  have HU : Hid (∀ w, Calls Tryd.prog 28 #[tx (119 :: 40 :: q), .int .i64 0, .int .u8 41] w _) := fun w => upTo_any (119 :: 40 :: q) 0 41 w (by simp) (by omega)
  have HK : Hid (∀ w, _) := fun w => runword_any (opK (119 :: 40 :: q)) w (Nat.le_trans (by unfold opK; rw [List.length_take, List.length_drop]; omega) hl)
  have hix : ∀ w, (Instr.index 9 (tx (119 :: 40 :: q)) (.int .i64 0)).run Tryd.prog w = .ok (.int .u8 119) w := fun w => idx_tx (l := (119 :: 40 :: q)) (i := 0) (b := 119) rfl w
  have hs1 : ∀ w, (Instr.slice 9 (tx (119 :: 40 :: q)) (some (.int .i64 2)) (some (.int .i64 (upT (119 :: 40 :: q) 0 41 : Nat))) none).run Tryd.prog w = .ok (tx (opK (119 :: 40 :: q))) w := fun w => mid_tx (119 :: 40 :: q) 2 (upT (119 :: 40 :: q) 0 41) hu.1 (by simp; omega) w
  have HS2 : Hid (upT (119 :: 40 :: q) 0 41 ≠ (119 :: 40 :: q).length → ∀ w, (Instr.slice 9 (tx (119 :: 40 :: q)) (some (.int .i64 ((upT (119 :: 40 :: q) 0 41 : Nat) + 1))) none none).run Tryd.prog w = .ok (tx (opZ (119 :: 40 :: q))) w) := fun hne w => by
    have h2 : upT (119 :: 40 :: q) 0 41 + 1 ≤ (119 :: 40 :: q).length := by simp at hne ⊢; omega
    exact from_tx (119 :: 40 :: q) (upT (119 :: 40 :: q) 0 41 + 1) h2 w
  have hZ : (opZ (119 :: 40 :: q)).length ≤ 140737488351232 := Nat.le_trans (by unfold opZ; rw [List.length_drop]; omega) hl
  have hlen : (119 :: 40 :: q).length = q.length + 2 := rfl
  unfold opY at EY
  generalize opX (119 :: 40 :: q) = X at *
  have EX : Hid _ := EX0.trans EY.out
  clear EX0 EY
  generalize opK (119 :: 40 :: q) = KT at *
  generalize opZ (119 :: 40 :: q) = ZT at *
  generalize upT (119 :: 40 :: q) 0 41 = E at *
  generalize (119 :: 40 :: q) = L at *
  obtain ⟨W0, e0⟩ : ∃ W0, W0 = (w.alloc (.cells #[.int .i64 0, .string ⟨#[]⟩, .bool false, .string ⟨#[]⟩] 49 (0, 0))).alloc (.cells #[.int .i64 0, .string ⟨#[]⟩, .bool false, .string ⟨#[]⟩] 49 (0, 0)) := ⟨_, rfl⟩
  have T0 : Hid (Bo w W0 (.int .i64 0) (.string ⟨#[]⟩) (.bool false) (.string ⟨#[]⟩)) := by rw [e0]; exact Bo.start w
  have HR : Hid (∀ w, _) := fun w => runword_any (ZT.drop 1) w (Nat.le_trans (by rw [List.length_drop]; omega) hZ)
  generalize hD : ZT.drop 1 = ZD at HR EX
  have ED : Hid (ZT.drop 1 = ZD) := hD
  clear hD
  have HBZ : Hid (∀ w, Calls Tryd.prog 37 #[tx ZT, .int .i64 0, tx [61]] w fun e w' => e = .returned (.bool (Lib.hasPrefix ZT [61])) ∧ w' = w) := fun w => begins_any ZT 0 [61] w (by simp) (by omega) (by decide)
  have wE : wrap64 ((E : Int) + 1) = (E : Int) + 1 := by unfold wrap64; omega
  go_enter Tryd.func39, Tryd.ntmps39
  go_upto_region 2 with fail
  rw [← e0]
  clear e0
  go_wp2_with fail
  refine Calls.mono (HB.out [114, 40] _ (by decide)) ?_
  rintro e w1 ⟨rfl, e1⟩
  subst e1
  rw [N1]
  go_wp2_with fail
  refine Calls.mono (HB.out [119, 40] _ (by decide)) ?_
  rintro e w1 ⟨rfl, e1⟩
  subst e1
  rw [N2]
  go_wp2_with fail
  refine Calls.mono (HU.out _) ?_
  rintro e w1 ⟨rfl, e1⟩
  subst e1
  obtain ⟨⟨d0, d1, d2, d3⟩, g0, g1, g2, g3⟩ := op_obj T0.out.b2
  obtain ⟨⟨x0, x1, x2, x3⟩, h0, h1, h2, h3⟩ := op_obj T0.out.b4
  have ld := lt_of_heap T0.out.b2
  have lx := lt_of_heap T0.out.b4
  by_cases hE : E = L.length
  · have q1 : ((E : Int) == (L.length : Int)) = true := by rw [hE]; simp
    have EX2 : Hid (X = none) := EX.out.trans (if_pos hE)
    clear hE
    go_wp2_with fail
    refine bodyPost_ret (results_ct (a := 2) (b := 3) (t := 49) rfl rfl (T0.out.done ⟨0, ⟨#[]⟩, false, ⟨#[]⟩⟩).1) rfl ?_
    rw [EX2.out]
    exact ⟨_, rfl, fun o h => by (cases h), (T0.out.done ⟨0, ⟨#[]⟩, false, ⟨#[]⟩⟩).2⟩
  · have q1 : ((E : Int) == (L.length : Int)) = false := beq_eq_false_iff_ne.2 (fun e => hE (by omega))
    have hs2 := HS2.out hE
    have EX2 : Hid _ := EX.out.trans (if_neg hE)
    clear hE HS2 EX
    go_wp2_with fail
    refine Calls.mono (HK.out _) ?_
    rintro e w2 ⟨rfl, k2⟩
    have T2 : Hid (Bo w w2 (.int .i64 0) (.string ⟨#[]⟩) (.bool false) (.string ⟨#[]⟩)) := T0.out.on k2
    clear k2 T0 HK HU HB d0 d1 d2 d3 g0 g1 g2 g3 x0 x1 x2 x3 h0 h1 h2 h3 ld lx
    generalize uwd KT = ok at *
    cases ok with
    | none =>
      have EX3 : Hid (X = none) := EX2.out
      clear EX2
      simp only [ruV]
      obtain ⟨⟨d0, d1, d2, d3⟩, g0, g1, g2, g3⟩ := op_obj T2.out.b2
      obtain ⟨⟨x0, x1, x2, x3⟩, h0, h1, h2, h3⟩ := op_obj T2.out.b4
      have ld := lt_of_heap T2.out.b2
      have lx := lt_of_heap T2.out.b4
      go_wp2_with fail
      refine bodyPost_ret (results_ct (a := 2) (b := 3) (t := 49) rfl rfl (T2.out.done ⟨0, ⟨#[]⟩, false, ⟨#[]⟩⟩).1) rfl ?_
      rw [EX3.out]
      exact ⟨_, rfl, fun o h => by (cases h), (T2.out.done ⟨0, ⟨#[]⟩, false, ⟨#[]⟩⟩).2⟩
    | some k =>
      dsimp only at EX2
      simp only [ruV]
      obtain ⟨W3, e3⟩ : ∃ W3, W3 = w2.setCell ⟨w.heap.size + 1, 1, none⟩ (tx k) := ⟨_, rfl⟩
      have T3 : Hid (Bo w W3 (.int .i64 0) (tx k) (.bool false) (.string ⟨#[]⟩)) := by rw [e3]; exact T2.out.set 1 _ rfl
      obtain ⟨⟨d0, d1, d2, d3⟩, g0, g1, g2, g3⟩ := op_obj T2.out.b2
      obtain ⟨⟨x0, x1, x2, x3⟩, h0, h1, h2, h3⟩ := op_obj T2.out.b4
      have ld := lt_of_heap T2.out.b2
      have lx := lt_of_heap T2.out.b4
      go_upto_region 11 with fail
      rw [← e3]
      clear e3 T2 d0 d1 d2 d3 g0 g1 g2 g3 x0 x1 x2 x3 h0 h1 h2 h3 ld lx
      obtain ⟨W4, e4⟩ : ∃ W4, W4 = W3.setCell ⟨w.heap.size + 1, 0, none⟩ (.int .i64 1) := ⟨_, rfl⟩
      have T4 : Hid (Bo w W4 (.int .i64 1) (tx k) (.bool false) (.string ⟨#[]⟩)) := by rw [e4]; exact T3.out.set 0 _ rfl
      obtain ⟨⟨d0, d1, d2, d3⟩, g0, g1, g2, g3⟩ := op_obj T3.out.b2
      obtain ⟨⟨x0, x1, x2, x3⟩, h0, h1, h2, h3⟩ := op_obj T3.out.b4
      have ld := lt_of_heap T3.out.b2
      have lx := lt_of_heap T3.out.b4
      rw [if_neg (show ¬ (119 : UInt8) = 100 by decide)] at EX2
      go_upto_region 16 with fail
      rw [← e4]
      clear e4 T3 d0 d1 d2 d3 g0 g1 g2 g3 x0 x1 x2 x3 h0 h1 h2 h3 ld lx
      obtain ⟨W5, e5⟩ : ∃ W5, W5 = W4.setCell ⟨w.heap.size + 1, 0, none⟩ (.int .i64 2) := ⟨_, rfl⟩
      have T5 : Hid (Bo w W5 (.int .i64 2) (tx k) (.bool false) (.string ⟨#[]⟩)) := by rw [e5]; exact T4.out.set 0 _ rfl
      obtain ⟨⟨d0, d1, d2, d3⟩, g0, g1, g2, g3⟩ := op_obj T4.out.b2
      obtain ⟨⟨x0, x1, x2, x3⟩, h0, h1, h2, h3⟩ := op_obj T4.out.b4
      have ld := lt_of_heap T4.out.b2
      have lx := lt_of_heap T4.out.b4
      go_upto_region 18 with fail
      rw [← e5]
      clear e5 T4 d0 d1 d2 d3 g0 g1 g2 g3 x0 x1 x2 x3 h0 h1 h2 h3 ld lx
      obtain ⟨⟨d0, d1, d2, d3⟩, g0, g1, g2, g3⟩ := op_obj T5.out.b2
      obtain ⟨⟨x0, x1, x2, x3⟩, h0, h1, h2, h3⟩ := op_obj T5.out.b4
      have ld := lt_of_heap T5.out.b2
      have lx := lt_of_heap T5.out.b4
      go_wp2_with fail
      refine Calls.mono (HBZ.out _) ?_
      rintro e w5 ⟨rfl, e5⟩
      subst e5
      cases hb : Lib.hasPrefix ZT [61] with
      | false =>
        have EX3 : Hid (X = none) := EX2.out.trans (if_pos hb)
        clear EX2
        go_wp2_with fail
        refine bodyPost_ret (results_ct (a := 2) (b := 3) (t := 49) rfl rfl (T5.out.done ⟨2, bts k, false, bts []⟩).1) rfl ?_
        rw [EX3.out]
        exact ⟨_, rfl, fun o h => by (cases h), (T5.out.done ⟨2, bts k, false, bts []⟩).2⟩
      | true =>
        have EX3 : Hid _ := EX2.out.trans (if_neg (by rw [hb]; decide))
        clear EX2
        have hz1 : 1 ≤ ZT.length := by
          have := has_iff ZT [61]
          rw [hb] at this
          simp at this
          omega
        have hs3 : ∀ w, (Instr.slice 9 (tx ZT) (some (.int .i64 1)) none none).run Tryd.prog w = .ok (tx ZD) w := fun w => by rw [← ED.out]; exact from_tx ZT 1 hz1 w
        have EX4 : Hid _ := EX3.out.trans (if_neg (fun h => absurd h.1 (by decide)))
        clear EX3
        go_wp2_with fail
        refine Calls.mono (HR.out _) ?_
        rintro e w6 ⟨rfl, k6⟩
        have T6 : Hid (Bo w w6 (.int .i64 2) (tx k) (.bool false) (.string ⟨#[]⟩)) := T5.out.on k6
        clear k6 T5 HR HBZ d0 d1 d2 d3 g0 g1 g2 g3 x0 x1 x2 x3 h0 h1 h2 h3 ld lx
        generalize uwd ZD = ov at *
        cases ov with
        | none =>
          have EX5 : Hid (X = none) := EX4.out
          clear EX4
          simp only [ruV]
          obtain ⟨W7, e7⟩ : ∃ W7, W7 = (w6.setCell ⟨w.heap.size + 1, 2, none⟩ (.bool true)).setCell ⟨w.heap.size + 1, 3, none⟩ (tx []) := ⟨_, rfl⟩
          have T7 : Hid (Bo w W7 (.int .i64 2) (tx k) (.bool true) (tx [])) := by rw [e7]; exact (T6.out.set (v0 := .int .i64 2) (v1 := tx k) (v2 := .bool true) (v3 := .string ⟨#[]⟩) 2 _ rfl).set 3 _ rfl
          obtain ⟨⟨d0, d1, d2, d3⟩, g0, g1, g2, g3⟩ := op_obj T6.out.b2
          obtain ⟨⟨x0, x1, x2, x3⟩, h0, h1, h2, h3⟩ := op_obj T6.out.b4
          have ld := lt_of_heap T6.out.b2
          have lx := lt_of_heap T6.out.b4
          go_upto_region 25 with fail
          rw [← e7]
          clear e7 T6 d0 d1 d2 d3 g0 g1 g2 g3 x0 x1 x2 x3 h0 h1 h2 h3 ld lx
          obtain ⟨⟨d0, d1, d2, d3⟩, g0, g1, g2, g3⟩ := op_obj T7.out.b2
          obtain ⟨⟨x0, x1, x2, x3⟩, h0, h1, h2, h3⟩ := op_obj T7.out.b4
          have ld := lt_of_heap T7.out.b2
          have lx := lt_of_heap T7.out.b4
          go_wp2_with fail
          refine bodyPost_ret (results_ct (a := 2) (b := 3) (t := 49) rfl rfl (T7.out.done ⟨2, bts k, true, bts []⟩).1) rfl ?_
          rw [EX5.out]
          exact ⟨_, rfl, fun o h => by (cases h), (T7.out.done ⟨2, bts k, true, bts []⟩).2⟩
        | some v =>
          have EX5 : Hid (X = some ⟨2, bts k, true, bts v⟩) := EX4.out
          clear EX4
          simp only [ruV]
          obtain ⟨W7, e7⟩ : ∃ W7, W7 = (w6.setCell ⟨w.heap.size + 1, 2, none⟩ (.bool true)).setCell ⟨w.heap.size + 1, 3, none⟩ (tx v) := ⟨_, rfl⟩
          have T7 : Hid (Bo w W7 (.int .i64 2) (tx k) (.bool true) (tx v)) := by rw [e7]; exact (T6.out.set (v0 := .int .i64 2) (v1 := tx k) (v2 := .bool true) (v3 := .string ⟨#[]⟩) 2 _ rfl).set 3 _ rfl
          obtain ⟨⟨d0, d1, d2, d3⟩, g0, g1, g2, g3⟩ := op_obj T6.out.b2
          obtain ⟨⟨x0, x1, x2, x3⟩, h0, h1, h2, h3⟩ := op_obj T6.out.b4
          have ld := lt_of_heap T6.out.b2
          have lx := lt_of_heap T6.out.b4
          go_upto_region 25 with fail
          rw [← e7]
          clear e7 T6 d0 d1 d2 d3 g0 g1 g2 g3 x0 x1 x2 x3 h0 h1 h2 h3 ld lx
          obtain ⟨⟨d0, d1, d2, d3⟩, g0, g1, g2, g3⟩ := op_obj T7.out.b2
          obtain ⟨⟨x0, x1, x2, x3⟩, h0, h1, h2, h3⟩ := op_obj T7.out.b4
          have ld := lt_of_heap T7.out.b2
          have lx := lt_of_heap T7.out.b4
          go_wp2_with fail
          refine bodyPost_ret (results_ct (a := 2) (b := 3) (t := 49) rfl rfl (T7.out.done ⟨2, bts k, true, bts v⟩).1) rfl ?_
          rw [EX5.out]
          exact ⟨_, rfl, fun o h => by (cases h; rfl), (T7.out.done ⟨2, bts k, true, bts v⟩).2⟩
set_option maxRecDepth 100000 in
set_option maxHeartbeats 3200000 in
theorem operation_no (L : List UInt8) (w : World) (hl : L.length ≤ 140737488351232) (N1 : Lib.hasPrefix L [114, 40] = false) (N2 : Lib.hasPrefix L [119, 40] = false) (N3 : Lib.hasPrefix L [100, 40] = false) : Calls Tryd.prog 39 #[tx L] w (OpP w L) := by
  unfold OpP
  have EX : Hid (opX L = none) := by
    show _ = _
    unfold opX
    rw [N1, N2, N3]
    rfl
  have HB : Hid (∀ p w, p.length ≤ 281474976710656 → Calls Tryd.prog 37 #[tx L, .int .i64 0, tx p] w fun e w' => e = .returned (.bool (Lib.hasPrefix L p)) ∧ w' = w) := fun p w hp => begins_any L 0 p w (by simp) (by omega) hp
  generalize opX L = X at *
  obtain ⟨W0, e0⟩ : ∃ W0, W0 = (w.alloc (.cells #[.int .i64 0, .string ⟨#[]⟩, .bool false, .string ⟨#[]⟩] 49 (0, 0))).alloc (.cells #[.int .i64 0, .string ⟨#[]⟩, .bool false, .string ⟨#[]⟩] 49 (0, 0)) := ⟨_, rfl⟩
  have T0 : Hid (Bo w W0 (.int .i64 0) (.string ⟨#[]⟩) (.bool false) (.string ⟨#[]⟩)) := by rw [e0]; exact Bo.start w
  go_enter Tryd.func39, Tryd.ntmps39
  go_upto_region 2 with fail
  rw [← e0]
  clear e0
  obtain ⟨⟨d0, d1, d2, d3⟩, g0, g1, g2, g3⟩ := op_obj T0.out.b2
  obtain ⟨⟨x0, x1, x2, x3⟩, h0, h1, h2, h3⟩ := op_obj T0.out.b4
  have ld := lt_of_heap T0.out.b2
  have lx := lt_of_heap T0.out.b4
  go_wp2_with fail
  refine Calls.mono (HB.out [114, 40] _ (by decide)) ?_
  rintro e w1 ⟨rfl, e1⟩
  subst e1
  rw [N1]
  go_wp2_with fail
  refine Calls.mono (HB.out [119, 40] _ (by decide)) ?_
  rintro e w1 ⟨rfl, e1⟩
  subst e1
  rw [N2]
  go_wp2_with fail
  refine Calls.mono (HB.out [100, 40] _ (by decide)) ?_
  rintro e w1 ⟨rfl, e1⟩
  subst e1
  rw [N3]
  go_wp2_with fail
  refine bodyPost_ret (results_ct (a := 2) (b := 3) (t := 49) rfl rfl (T0.out.done ⟨0, ⟨#[]⟩, false, ⟨#[]⟩⟩).1) rfl ?_
  rw [EX.out]
  exact ⟨_, rfl, fun o h => by (cases h), (T0.out.done ⟨0, ⟨#[]⟩, false, ⟨#[]⟩⟩).2⟩
theorem has_two {p : List UInt8} {a b : UInt8} (h : Lib.hasPrefix p [a, b] = true) : ∃ q, p = a :: b :: q := by
  obtain ⟨r, e⟩ := List.isPrefixOf_iff_prefix.1 h
  exact ⟨r, by rw [← e]; rfl⟩
theorem operation_any (p : List UInt8) (w : World) (hl : p.length ≤ 140737488351232) : Calls Tryd.prog 39 #[tx p] w (OpP w p) := by
  cases h1 : Lib.hasPrefix p [114, 40] with
  | true =>
    obtain ⟨q, rfl⟩ := has_two h1
    exact operation_r q w hl
  | false =>
    cases h2 : Lib.hasPrefix p [119, 40] with
    | true =>
      obtain ⟨q, rfl⟩ := has_two h2
      exact operation_w q w hl
    | false =>
      cases h3 : Lib.hasPrefix p [100, 40] with
      | true =>
        obtain ⟨q, rfl⟩ := has_two h3
        exact operation_d q w hl
      | false => exact operation_no p w hl h1 h2 h3
end Go.Proofs.YtlldgibpajbabaaDoor
