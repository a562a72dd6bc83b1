/- What is proved: report's reader: outcome; report's Parse; conditions: the text's length, that the library's variable of the greatest length holds a number, that the tables lie as their texts lay them. -/
import Derived.Test.YtfhaiklfbnfdlaaDoorRoK
import Derived.Test.YtfhaiklfbnfdlaaDoorRoE
import Derived.Test.YtfhaiklfbnfdlaaDoorNoDb
import Derived.Test.YtfhaiklfbnfdlaaDoorRoG
namespace Go.Proofs.YtfhaiklfbnfdlaaDoor
open Go.RowKit

/-- The states of the reader, one behind the other. -/
def os0 (s : Rs) : Rs := mst headB s
def okd (s : Rs) : Nat := kdN oWords 10 (os0 s)
def os1 (s : Rs) : Rs := kdT oWords 10 (os0 s)
def os2 (s : Rs) : Rs := if hc (okd s) = true then nuT [99, 111, 100, 101, 32] 10 (os1 s) else os1 s
def ocd (s : Rs) : Nat := if hc (okd s) = true then nuN [99, 111, 100, 101, 32] 10 (os1 s) else 0
def os3 (s : Rs) : Rs := if ho (okd s) = true then nuT [111, 102, 102, 115, 101, 116, 32] 10 (os2 s) else os2 s
def oof (s : Rs) : Nat := if ho (okd s) = true then nuN [111, 102, 102, 115, 101, 116, 32] 10 (os2 s) else 0
def os4 (s : Rs) : Rs := if ht (okd s) = true then nuT [116, 120, 110, 115, 32] 10 (os3 s) else os3 s
def otn (s : Rs) : Nat := if ht (okd s) = true then nuN [116, 120, 110, 115, 32] 10 (os3 s) else 0
def os5 (s : Rs) : Rs := nuT [116, 111, 116, 97, 108, 32] 10 (os4 s)
def ott (s : Rs) : Nat := if hl (okd s) = true then nuN [116, 111, 116, 97, 108, 32] 10 (os4 s) else 0
def osh (s : Rs) : Nat := nuN [115, 104, 111, 119, 110, 32] 10 (os5 s)
def os6 (s : Rs) : Rs := nuT [115, 104, 111, 119, 110, 32] 10 (os5 s)
def oli (s : Rs) : List Vi.Vl × Rs := vsR (osh s) (osh s) [] (vsS (osh s) (os6 s))
def os7 (s : Rs) : Rs := if hl (okd s) = true then (oli s).2 else os4 s
def olv (s : Rs) : List Vi.Vl := if hl (okd s) = true then (oli s).1 else []
/-- The outcome that is read, and what is left. -/
def ouR (s : Rs) : OuM := ⟨(okd s : Nat), (ocd s : Nat), (oof s : Nat), (otn s : Nat), (ott s : Nat), olv s⟩
def ouT (s : Rs) : Rs := mst footB (os7 s)
theorem numb_lt {l : List UInt8} : (numb l).getD 0 ≤ 999999999999999 := by
  cases h : numb l with
  | none => exact Nat.zero_le _
  | some n => exact Nat.le_of_lt_succ ((numb_inv h).2)
theorem nuN_le (p : List UInt8) (c : UInt8) (s : Rs) : nuN p c s ≤ 999999999999999 := numb_lt
def ouz : Array Value := #[.int .i64 0, .int .i64 0, .int .i64 0, .int .i64 0, .int .i64 0, .slice none 0 0]
/-- The reader, the result's box, the outcome's box and its list, since w. -/
structure Ux (w W : World) (rb : Nat) (s : Rs) (arr : Array Value) (v : Value) (acc : List Vi.Vl) : Prop where
  rd : Rq W rb s
  b2 : W.heap[w.heap.size]? = some (.cells ouz 25 (0, 0))
  b3 : W.heap[w.heap.size + 1]? = some (.cells arr 25 (0, 0))
  own : OwV (w.heap.size + 2) W v acc
  mv : Mv rb w W
  lt : rb < w.heap.size
  gs : 2 < w.heap.size ∧ 0 < w.heap.size ∧ 1 < w.heap.size
theorem Ux.start {w : World} {rb : Nat} {s : Rs} (h : Rq w rb s) : Ux w ((w.alloc (.cells ouz 25 (0, 0))).alloc (.cells ouz 25 (0, 0))) rb s ouz (.slice none 0 0) [] :=
  have k : Kept w ((w.alloc (.cells ouz 25 (0, 0))).alloc (.cells ouz 25 (0, 0))) := ((Same.refl _ w).alloc _).alloc _
  ⟨h.kept k, (two_new w _ _).1, (two_new w _ _).2, Vi.Own.nil _ _ _ _ _, k.to _, lt_of_heap h.rd, h.gs⟩
theorem Ux.on {w W W' : World} {rb : Nat} {s s' : Rs} {arr : Array Value} {v : Value} {acc : List Vi.Vl} (h : Ux w W rb s arr v acc) (r : Rq W' rb s') (m : Mv rb W W') : Ux w W' rb s' arr v acc :=
  have lt := h.lt
  ⟨r, (m.block _ (lt_of_heap h.b2) (by omega)).trans h.b2, (m.block _ (lt_of_heap h.b3) (by omega)).trans h.b3, h.own.kept m (fun b hb e => by have := (h.own.block hb).1; omega), h.mv.trans' m, h.lt, h.gs⟩
theorem Ux.set {w W : World} {rb : Nat} {s : Rs} {arr : Array Value} {v : Value} {acc : List Vi.Vl} (h : Ux w W rb s arr v acc) (i : Nat) (x : Value) : Ux w (W.setCell ⟨w.heap.size + 1, i, none⟩ x) rb s (arr.setIfInBounds i x) v acc :=
  have k : Same (fun j => j = w.heap.size + 1) W (W.setCell ⟨w.heap.size + 1, i, none⟩ x) := (Same.refl (fun j => j = w.heap.size + 1) W).setCell _ (.inr rfl) _
  have lt := h.lt
  ⟨h.rd.off k (B := w.heap.size) (fun j hj => by omega) h.lt h.gs, (k.block _ (lt_of_heap h.b2) (by omega)).trans h.b2, setCell_at h.b3 i x, h.own.kept k (fun b hb e => by have := (h.own.block hb).1; omega), Same.trans h.mv k (fun j hj e => by omega), h.lt, h.gs⟩
theorem Ux.list {w W W' : World} {rb : Nat} {s s' : Rs} {arr : Array Value} {v v' : Value} {acc acc' : List Vi.Vl} (h : Ux w W rb s arr v acc) (r : Rq W' rb s') (m : Mv rb W W') (o : OwV W.heap.size W' v' acc') : Ux w W' rb s' arr v' acc' :=
  have q := h.on r m
  ⟨r, q.b2, q.b3, o.base (lt_of_heap h.b3), q.mv, h.lt, h.gs⟩
theorem Ux.facts {w W : World} {rb : Nat} {s : Rs} {arr : Array Value} {v : Value} {acc : List Vi.Vl} (h : Ux w W rb s arr v acc) : w.heap.size + 1 < W.heap.size ∧ (∀ i, W.cell? ⟨w.heap.size + 1, i, none⟩ = arr[i]?) ∧ ∀ i, W.frozen? ⟨w.heap.size + 1, i, none⟩ = false := ⟨lt_of_heap h.b3, fun i => cell_of h.b3 i, fun i => frozen_of h.b3 i⟩
def put6o (w : World) (b : Nat) (v0 v1 v2 v3 v4 v5 : Value) : World := (((((w.setCell ⟨b, 0, none⟩ v0).setCell ⟨b, 1, none⟩ v1).setCell ⟨b, 2, none⟩ v2).setCell ⟨b, 3, none⟩ v3).setCell ⟨b, 4, none⟩ v4).setCell ⟨b, 5, none⟩ v5
theorem put6o_at {w : World} {b : Nat} {T : TypeId} {u0 u1 u2 u3 u4 u5 : Value} (h : w.heap[b]? = some (.cells #[u0, u1, u2, u3, u4, u5] T (0, 0))) (v0 v1 v2 v3 v4 v5 : Value) : (put6o w b v0 v1 v2 v3 v4 v5).heap[b]? = some (.cells #[v0, v1, v2, v3, v4, v5] T (0, 0)) :=
  (setCell_at (setCell_at (setCell_at (setCell_at (setCell_at (setCell_at h 0 _) 1 _) 2 _) 3 _) 4 _) 5 _).trans (by simp)
theorem put6o_same (w : World) (b : Nat) (v0 v1 v2 v3 v4 v5 : Value) : Same (fun k => k = b) w (put6o w b v0 v1 v2 v3 v4 v5) :=
  ((((((Same.refl (fun k => k = b) w).setCell _ (.inr rfl) _).setCell _ (.inr rfl) _).setCell _ (.inr rfl) _).setCell _ (.inr rfl) _).setCell _ (.inr rfl) _).setCell _ (.inr rfl) _
theorem loadVar_ou {w : World} {b : Nat} {a0 a1 a2 a3 a4 : Int} {s : Option Addr} {n c : Nat} (h : w.heap[b]? = some (.cells #[.int .i64 a0, .int .i64 a1, .int .i64 a2, .int .i64 a3, .int .i64 a4, .slice s n c] 25 (0, 0))) :
    (loadVar 25 ⟨b, 0, none⟩).run Tryd.prog w = .ok (.agg #[.int .i64 a0, .int .i64 a1, .int .i64 a2, .int .i64 a3, .int .i64 a4, .slice s n c]) w := by
  obtain ⟨c0, c1, c2, c3, c4, c5⟩ := ou_obj h
  clear h
  go_simp
set_option maxRecDepth 100000 in
set_option maxHeartbeats 3200000 in
theorem poutcome {w : World} {rb : Nat} {s : Rs} (h : Rq w rb s) (hs : s.le) : Calls Tryd.prog 34 #[rdp rb] w fun e w' => ∃ a c, e = .returned (ouV (ouR s) (.slice a (ouR s).ls.length c)) ∧ OwV w.heap.size w' (.slice a (ouR s).ls.length c) (ouR s).ls ∧ Rq w' rb (ouT s) ∧ Mv rb w w' := by
  have HM : Hid (∀ W s p, Rq W rb s → _) := fun W s p (q : Rq W rb s) => pmust q p
  have HK : Hid (∀ W s, Rq W rb s → s.le → _) := fun W s (q : Rq W rb s) l => pokind q l
  have HN : Hid (∀ W s p, Rq W rb s → s.le → _) := fun W s p (q : Rq W rb s) l => pnumber q l p 10
  have HVS : Hid (∀ W s (m : Nat), m ≤ 999999999999999 → Rq W rb s → s.le → _) := fun W s m hm (q : Rq W rb s) l => pviols q l m (by omega)
  have HC : Hid (∀ k W, _) := fun k W => hasCode22 k W
  have HO : Hid (∀ k W, _) := fun k W => hasOffset22 k W
  have HT : Hid (∀ k W, _) := fun k W => hasTxns22 k W
  have HLI : Hid (∀ k W, _) := fun k W => hasList22 k W
  have T0 : Hid _ := Ux.start h
  have L0 : Hid (s.le) := hs
  have EV : Hid (ouR s = ⟨(okd s : Nat), (ocd s : Nat), (oof s : Nat), (otn s : Nat), (ott s : Nat), olv s⟩) := rfl
  have ES : Hid (ouT s = mst footB (os7 s)) := rfl
  have Q0 : Hid (os0 s = mst headB s) := rfl
  have Q1 : Hid (os1 s = kdT oWords 10 (os0 s)) := rfl
  have QK : Hid (okd s = kdN oWords 10 (os0 s)) := rfl
  have Q2 : Hid (os2 s = if hc (okd s) = true then nuT [99, 111, 100, 101, 32] 10 (os1 s) else os1 s) := rfl
  have N2 : Hid (ocd s = if hc (okd s) = true then nuN [99, 111, 100, 101, 32] 10 (os1 s) else 0) := rfl
  have Q3 : Hid (os3 s = if ho (okd s) = true then nuT [111, 102, 102, 115, 101, 116, 32] 10 (os2 s) else os2 s) := rfl
  have N3 : Hid (oof s = if ho (okd s) = true then nuN [111, 102, 102, 115, 101, 116, 32] 10 (os2 s) else 0) := rfl
  have Q4 : Hid (os4 s = if ht (okd s) = true then nuT [116, 120, 110, 115, 32] 10 (os3 s) else os3 s) := rfl
  have N4 : Hid (otn s = if ht (okd s) = true then nuN [116, 120, 110, 115, 32] 10 (os3 s) else 0) := rfl
  have Q5 : Hid (os5 s = nuT [116, 111, 116, 97, 108, 32] 10 (os4 s)) := rfl
  have N5 : Hid (ott s = if hl (okd s) = true then nuN [116, 111, 116, 97, 108, 32] 10 (os4 s) else 0) := rfl
  have Q6 : Hid (os6 s = nuT [115, 104, 111, 119, 110, 32] 10 (os5 s)) := rfl
  have N6 : Hid (osh s = nuN [115, 104, 111, 119, 110, 32] 10 (os5 s)) := rfl
  have B6 : Hid (osh s ≤ 999999999999999) := nuN_le _ _ _
  have Q7 : Hid (os7 s = if hl (okd s) = true then (vsR (osh s) (osh s) [] (vsS (osh s) (os6 s))).2 else os4 s) := rfl
  have N7 : Hid (olv s = if hl (okd s) = true then (vsR (osh s) (osh s) [] (vsS (osh s) (os6 s))).1 else []) := rfl
  generalize ouR s = VR at *
  generalize ouT s = VS at *
  generalize olv s = vl at *
  generalize os7 s = a7 at *
  generalize osh s = sh at *
  generalize os6 s = a6 at *
  generalize ott s = tt at *
  generalize os5 s = a5 at *
  generalize otn s = tn at *
  generalize os4 s = a4 at *
  generalize oof s = of at *
  generalize os3 s = a3 at *
  generalize ocd s = cd at *
  generalize os2 s = a2 at *
  generalize okd s = kd at *
  generalize os1 s = a1 at *
  generalize os0 s = a0 at *
  obtain ⟨Z0, eZ0⟩ : ∃ Z0, Z0 = (w.alloc (.cells ouz 25 (0, 0))).alloc (.cells ouz 25 (0, 0)) := ⟨_, rfl⟩
  rw [← eZ0] at T0
  unfold ouz at T0 eZ0
  clear h hs
  go_enter Tryd.func34, Tryd.ntmps34
  go_upto_region 2 with fail
  rw [← eZ0]
  clear eZ0
  go_wp2_with fail
  refine Calls.mono (HM.out _ _ headB T0.out.rd) ?_
  rintro e W0 ⟨rfl, r, m⟩
  have L1 : Hid (a0.le) := by rw [Q0.out]; exact L0.out.mst _
  rw [← Q0.out] at r
  have T1 : Hid (Ux w W0 rb a0 _ _ _) := T0.out.on r m
  clear r m T0 L0 Q0
  go_wp2_with fail
  refine Calls.mono (HK.out _ _ T1.out.rd L1.out) ?_
  rintro e W1 ⟨rfl, r, m⟩
  have L2 : Hid (a1.le) := by rw [Q1.out]; exact L1.out.kd _ _
  rw [← Q1.out] at r
  rw [← QK.out]
  have t := T1.out.on r m
  have T2 : Hid (Ux w (W1.setCell ⟨w.heap.size + 1, 0, none⟩ (.int .i64 (kd : Int))) rb a1 #[.int .i64 (kd : Int), .int .i64 0, .int .i64 0, .int .i64 0, .int .i64 0, .slice none 0 0] (.slice none 0 0) []) := by
    have h9 := t.set 0 (.int .i64 (kd : Int))
    simp only [List.setIfInBounds_toArray, List.set_cons_zero] at h9
    exact h9
  obtain ⟨y0, y1, y2⟩ := t.facts
  have z0 := y2 0
  have x0 := y1 0
  clear r m t T1 L1 y1 y2 Q1 QK
  simp at x0
  go_wp2_with fail
  refine Calls.mono (HC.out _ _) ?_
  rintro e wx ⟨rfl, ex⟩
  subst ex
  generalize hc (kd : Int) = bC at *
  go_upto_if 11 with fail
  go_cut [] (fun wx => Ux w wx rb a2 #[.int .i64 (kd : Int), .int .i64 (cd : Int), .int .i64 (0), .int .i64 (0), .int .i64 (0), .slice none 0 0] (.slice none 0 0) [])
  case first =>
    cases bC with
    | false =>
      have e1 : a2 = a1 := Q2.out
      have e2 : cd = 0 := N2.out
      go_wp2_with fail
      go_meet
      rw [e1, e2]
      exact T2.out
    | true =>
      have e1 : a2 = nuT [99, 111, 100, 101, 32] 10 a1 := Q2.out
      have e2 : cd = nuN [99, 111, 100, 101, 32] 10 a1 := N2.out
      go_wp2_with fail
      refine Calls.mono (HN.out _ _ [99, 111, 100, 101, 32] T2.out.rd L2.out) ?_
      rintro e wy ⟨rfl, r, m⟩
      rw [← e1] at r
      rw [← e2]
      have t := T2.out.on r m
      have T9 : Hid (Ux w (wy.setCell ⟨w.heap.size + 1, 1, none⟩ (.int .i64 (cd : Int))) rb a2 #[.int .i64 (kd : Int), .int .i64 (cd : Int), .int .i64 (0), .int .i64 (0), .int .i64 (0), .slice none 0 0] (.slice none 0 0) []) := by
        have h9 := t.set 1 (.int .i64 (cd : Int))
        simp only [List.setIfInBounds_toArray, List.set_cons_zero, List.set_cons_succ] at h9
        exact h9
      obtain ⟨y0, y1, y2⟩ := t.facts
      have z0 := y2 1
      have x0 := y1 1
      clear r m t y1 y2
      simp at x0
      go_wp2_with fail
      go_meet
      rw [← e2]
      exact T9.out
  case rest =>
    have T3 : Hid (Ux w wc rb a2 #[.int .i64 (kd : Int), .int .i64 (cd : Int), .int .i64 (0), .int .i64 (0), .int .i64 (0), .slice none 0 0] (.slice none 0 0) []) := hcut
    have L3 : Hid a2.le := by
      rw [Q2.out]
      split
      · exact L2.out.nu _ _
      · exact L2.out
    clear hcut T2 L2 Q2 N2
    obtain ⟨d0, d1, d2, d3, d4, d5⟩ := ou_obj T3.out.b3
    have ld := lt_of_heap T3.out.b3
    go_wp2_with fail
    refine Calls.mono (HO.out _ _) ?_
    rintro e wx ⟨rfl, ex⟩
    subst ex
    generalize ho (kd : Int) = bC at *
    go_upto_if 17 with fail
    go_cut [] (fun wx => Ux w wx rb a3 #[.int .i64 (kd : Int), .int .i64 (cd : Int), .int .i64 (of : Int), .int .i64 (0), .int .i64 (0), .slice none 0 0] (.slice none 0 0) [])
    case first =>
      cases bC with
      | false =>
        have e1 : a3 = a2 := Q3.out
        have e2 : of = 0 := N3.out
        go_wp2_with fail
        go_meet
        rw [e1, e2]
        exact T3.out
      | true =>
        have e1 : a3 = nuT [111, 102, 102, 115, 101, 116, 32] 10 a2 := Q3.out
        have e2 : of = nuN [111, 102, 102, 115, 101, 116, 32] 10 a2 := N3.out
        go_wp2_with fail
        refine Calls.mono (HN.out _ _ [111, 102, 102, 115, 101, 116, 32] T3.out.rd L3.out) ?_
        rintro e wy ⟨rfl, r, m⟩
        rw [← e1] at r
        rw [← e2]
        have t := T3.out.on r m
        have T9 : Hid (Ux w (wy.setCell ⟨w.heap.size + 1, 2, none⟩ (.int .i64 (of : Int))) rb a3 #[.int .i64 (kd : Int), .int .i64 (cd : Int), .int .i64 (of : Int), .int .i64 (0), .int .i64 (0), .slice none 0 0] (.slice none 0 0) []) := by
          have h9 := t.set 2 (.int .i64 (of : Int))
          simp only [List.setIfInBounds_toArray, List.set_cons_zero, List.set_cons_succ] at h9
          exact h9
        obtain ⟨y0, y1, y2⟩ := t.facts
        have z0 := y2 2
        have x0 := y1 2
        clear r m t y1 y2
        simp at x0
        go_wp2_with fail
        go_meet
        rw [← e2]
        exact T9.out
    case rest =>
      have T4 : Hid (Ux w wc rb a3 #[.int .i64 (kd : Int), .int .i64 (cd : Int), .int .i64 (of : Int), .int .i64 (0), .int .i64 (0), .slice none 0 0] (.slice none 0 0) []) := hcut
      have L4 : Hid a3.le := by
        rw [Q3.out]
        split
        · exact L3.out.nu _ _
        · exact L3.out
      clear hcut T3 L3 Q3 N3
      obtain ⟨d0, d1, d2, d3, d4, d5⟩ := ou_obj T4.out.b3
      have ld := lt_of_heap T4.out.b3
      go_wp2_with fail
      refine Calls.mono (HT.out _ _) ?_
      rintro e wx ⟨rfl, ex⟩
      subst ex
      generalize ht (kd : Int) = bC at *
      go_upto_if 23 with fail
      go_cut [] (fun wx => Ux w wx rb a4 #[.int .i64 (kd : Int), .int .i64 (cd : Int), .int .i64 (of : Int), .int .i64 (tn : Int), .int .i64 (0), .slice none 0 0] (.slice none 0 0) [])
      case first =>
        cases bC with
        | false =>
          have e1 : a4 = a3 := Q4.out
          have e2 : tn = 0 := N4.out
          go_wp2_with fail
          go_meet
          rw [e1, e2]
          exact T4.out
        | true =>
          have e1 : a4 = nuT [116, 120, 110, 115, 32] 10 a3 := Q4.out
          have e2 : tn = nuN [116, 120, 110, 115, 32] 10 a3 := N4.out
          go_wp2_with fail
          refine Calls.mono (HN.out _ _ [116, 120, 110, 115, 32] T4.out.rd L4.out) ?_
          rintro e wy ⟨rfl, r, m⟩
          rw [← e1] at r
          rw [← e2]
          have t := T4.out.on r m
          have T9 : Hid (Ux w (wy.setCell ⟨w.heap.size + 1, 3, none⟩ (.int .i64 (tn : Int))) rb a4 #[.int .i64 (kd : Int), .int .i64 (cd : Int), .int .i64 (of : Int), .int .i64 (tn : Int), .int .i64 (0), .slice none 0 0] (.slice none 0 0) []) := by
            have h9 := t.set 3 (.int .i64 (tn : Int))
            simp only [List.setIfInBounds_toArray, List.set_cons_zero, List.set_cons_succ] at h9
            exact h9
          obtain ⟨y0, y1, y2⟩ := t.facts
          have z0 := y2 3
          have x0 := y1 3
          clear r m t y1 y2
          simp at x0
          go_wp2_with fail
          go_meet
          rw [← e2]
          exact T9.out
      case rest =>
        have T5 : Hid (Ux w wc rb a4 #[.int .i64 (kd : Int), .int .i64 (cd : Int), .int .i64 (of : Int), .int .i64 (tn : Int), .int .i64 (0), .slice none 0 0] (.slice none 0 0) []) := hcut
        have L5 : Hid a4.le := by
          rw [Q4.out]
          split
          · exact L4.out.nu _ _
          · exact L4.out
        clear hcut T4 L4 Q4 N4
        obtain ⟨d0, d1, d2, d3, d4, d5⟩ := ou_obj T5.out.b3
        have ld := lt_of_heap T5.out.b3
        go_wp2_with fail
        refine Calls.mono (HLI.out _ _) ?_
        rintro e wx ⟨rfl, ex⟩
        subst ex
        generalize hl (kd : Int) = bC at *
        go_upto_if 29 with fail
        go_cut [] (fun wx => ∃ v, Ux w wx rb a7 #[.int .i64 (kd : Int), .int .i64 (cd : Int), .int .i64 (of : Int), .int .i64 (tn : Int), .int .i64 (tt : Int), v] v vl)
        case first =>
          cases bC with
          | false =>
            have e1 : a7 = a4 := Q7.out
            have e2 : tt = 0 := N5.out
            have e3 : vl = [] := N7.out
            go_wp2_with fail
            go_meet
            rw [e1, e2, e3]
            exact ⟨_, T5.out⟩
          | true =>
            have e1 : a7 = (vsR sh sh [] (vsS sh a6)).2 := Q7.out
            have e2 : tt = nuN [116, 111, 116, 97, 108, 32] 10 a4 := N5.out
            have e3 : vl = (vsR sh sh [] (vsS sh a6)).1 := N7.out
            go_wp2_with fail
            refine Calls.mono (HN.out _ _ [116, 111, 116, 97, 108, 32] T5.out.rd L5.out) ?_
            rintro e wy ⟨rfl, r, m⟩
            have L6 : Hid a5.le := by rw [Q5.out]; exact L5.out.nu _ _
            rw [← Q5.out] at r
            have t := T5.out.on r m
            have T6 : Hid (Ux w (wy.setCell ⟨w.heap.size + 1, 4, none⟩ (.int .i64 (tt : Int))) rb a5 #[.int .i64 (kd : Int), .int .i64 (cd : Int), .int .i64 (of : Int), .int .i64 (tn : Int), .int .i64 (tt : Int), .slice none 0 0] (.slice none 0 0) []) := by
              have h9 := t.set 4 (.int .i64 (tt : Int))
              simp only [List.setIfInBounds_toArray, List.set_cons_zero, List.set_cons_succ] at h9
              exact h9
            obtain ⟨y0, y1, y2⟩ := t.facts
            have z0 := y2 4
            have x0 := y1 4
            clear r m t y1 y2 T5 L5 d0 d1 d2 d3 d4 d5 ld
            simp at x0
            rw [e2] at T6
            go_wp2_with fail
            refine Calls.mono (HN.out _ _ [115, 104, 111, 119, 110, 32] T6.out.rd L6.out) ?_
            rintro e wz ⟨rfl, r, m⟩
            have L7 : Hid a6.le := by rw [Q6.out]; exact L6.out.nu _ _
            rw [← Q6.out] at r
            have t := T6.out.on r m
            have T7 : Hid _ := t
            clear r m t T6 L6 y0 z0 x0
            rw [← N6.out]
            go_wp2_with fail
            refine Calls.mono (HVS.out _ _ _ B6.out T7.out.rd L7.out) ?_
            rintro e wq ⟨v, rfl, o, r, m⟩
            rw [← e1] at r
            rw [← e3] at o
            obtain ⟨a, c, ev, -⟩ := o.shape
            subst ev
            have t := T7.out.list r m o
            have T8 : Hid _ := t.set 5 (.slice a vl.length c)
            obtain ⟨y0, y1, y2⟩ := t.facts
            have z0 := y2 5
            have x0 := y1 5
            clear r m t y1 y2 o T7 L7
            simp at x0
            go_wp2_with fail
            go_meet
            rw [e2, ← e3]
            refine ⟨.slice a vl.length c, ?_⟩
            have h9 := T8.out
            simp only [List.setIfInBounds_toArray, List.set_cons_zero, List.set_cons_succ] at h9
            exact h9
        case rest =>
          obtain ⟨v, hcut⟩ := hcut
          have T6 : Hid _ := hcut
          clear hcut T5 L5 Q7 N7 d0 d1 d2 d3 d4 d5 ld
          go_wp2_with fail
          refine Calls.mono (HM.out _ _ footB T6.out.rd) ?_
          rintro e w9 ⟨rfl, r, m⟩
          rw [← ES.out] at r
          have T7 : Hid _ := T6.out.on r m
          clear r m T6
          obtain ⟨a, c, ev, -⟩ := T7.out.own.shape
          subst ev
          obtain ⟨d0, d1, d2, d3, d4, d5⟩ := ou_obj T7.out.b3
          obtain ⟨q0, q1, q2, q3, q4, q5⟩ := ou_obj T7.out.b2
          have g0 := frozen_of T7.out.b2 0
          have g1 := frozen_of T7.out.b2 1
          have g2 := frozen_of T7.out.b2 2
          have g3 := frozen_of T7.out.b2 3
          have g4 := frozen_of T7.out.b2 4
          have g5 := frozen_of T7.out.b2 5
          have lq := lt_of_heap T7.out.b2
          have ld := lt_of_heap T7.out.b3
          go_wp2_with fail
          refine bodyPost_ret (results_c1 (a := 2) (t := 25) rfl rfl (loadVar_ou (put6o_at T7.out.b2 _ _ _ _ _ _))) rfl ?_
          have k9' := put6o_same w9 w.heap.size (.int .i64 (kd : Int)) (.int .i64 (cd : Int)) (.int .i64 (of : Int)) (.int .i64 (tn : Int)) (.int .i64 (tt : Int)) (.slice a vl.length c)
          rw [EV.out]
          refine ⟨a, c, rfl, ?_, ?_, ?_⟩
          · exact (T7.out.own.base (by omega)).kept k9' (fun b hb e => by have := (T7.out.own.block hb).1; omega)
          · exact T7.out.rd.off k9' (B := w.heap.size) (fun j hj => by omega) T7.out.lt T7.out.gs
          · exact Same.trans T7.out.mv k9' (fun i hi e => by omega)
end Go.Proofs.YtfhaiklfbnfdlaaDoor

namespace Go.Proofs.YtfhaiklfbnfdlaaDoor
open Go.RowKit

theorem vsR_len (n m : Nat) (acc : List Vi.Vl) (s : Rs) : (vsR n m acc s).1.length ≤ max acc.length m := by
  induction n generalizing acc s with
  | zero => exact Nat.le_max_left _ _
  | succ n ih =>
    by_cases h : acc.length < m ∧ s.f = false
    · rw [vsR_go h]
      have := ih (acc ++ [vioR s]) (vsA s)
      rw [List.length_append, List.length_singleton] at this
      have := h.1
      omega
    · rw [vsR_stop h]
      exact Nat.le_max_left _ _
theorem olv_len (s : Rs) : (olv s).length ≤ 10000 := by
  unfold olv oli
  split
  · by_cases h : 10000 < osh s
    · have e : vsS (osh s) (os6 s) = ⟨(os6 s).l, true⟩ := if_pos h
      rw [e, vsR_stop (by simp)]
      exact Nat.zero_le _
    · have := vsR_len (osh s) (osh s) [] (vsS (osh s) (os6 s))
      simp only [List.length_nil] at this
      omega
  · exact Nat.zero_le _
def ou00 : OuM := ⟨0, 0, 0, 0, 0, []⟩
/-- What Parse answers. -/
def prsT (l : List UInt8) : OuM × Int := if (ouT ⟨l, false⟩).f = true then (ou00, 220) else if (ouT ⟨l, false⟩).l ≠ [] then (ou00, 220) else if okO (ouR ⟨l, false⟩) = true then (ouR ⟨l, false⟩, 0) else (ou00, 220)
set_option maxRecDepth 100000 in
set_option maxHeartbeats 3200000 in
theorem parse22 (l : List UInt8) (w : World) (hl : l.length ≤ 150000000000000) (hm : Mx w) (hw : Wds w) : Calls Tryd.prog 16 #[tx l] w fun e w' => ∃ a c, e = .returned (.tuple #[ouV (prsT l).1 (.slice a (prsT l).1.ls.length c), .int .i64 (prsT l).2]) ∧ OwV w.heap.size w' (.slice a (prsT l).1.ls.length c) (prsT l).1.ls ∧ Kept w w' := by
  have HO : Hid (∀ W rb, Rq W rb ⟨l, false⟩ → _) := fun W rb (q : Rq W rb ⟨l, false⟩) => poutcome q hl
  have HL : Hid ((ouR ⟨l, false⟩).ls.length ≤ 10000) := olv_len _
  have EP : Hid (prsT l = if (ouT ⟨l, false⟩).f = true then (ou00, 220) else if (ouT ⟨l, false⟩).l ≠ [] then (ou00, 220) else if okO (ouR ⟨l, false⟩) = true then (ouR ⟨l, false⟩, 0) else (ou00, 220)) := rfl
  have HQ : Hid (∀ (W : World) rb, Kept w W → W.heap[rb]? = some (.cells #[tx l, .bool false] 57 (0, 0)) → Rq W rb ⟨l, false⟩) := fun W rb k r => ⟨r, hm.on k, hw.on k⟩
  clear hm hw hl
  generalize prsT l = PT at *
  generalize ouR ⟨l, false⟩ = R at *
  generalize ouT ⟨l, false⟩ = S at *
  obtain ⟨sl, sf⟩ := S
  dsimp only at EP
  have HV : Hid (∀ W a cap, Vi.At Vi.vl1 12 W a R.ls → _) := fun W a cap h => valid22 W R a cap h (by have := HL.out; omega)
  generalize okO R = ok at *
  obtain ⟨kd, cd, off, tn, tt, ls⟩ := R
  unfold ouV at HO HV ⊢
  dsimp only at HO HV HL EP ⊢
  obtain ⟨W2, eW2⟩ : ∃ W2, W2 = (w.alloc (.cells ouz 25 (0, 0))).alloc (.cells #[tx l, .bool false] 57 (0, 0)) := ⟨_, rfl⟩
  have B2 : Hid (W2.heap[w.heap.size]? = some (.cells ouz 25 (0, 0))) := by rw [eW2]; exact (two_new w _ _).1
  have Q2 : Hid (Rq W2 (w.heap.size + 1) ⟨l, false⟩) := HQ.out W2 (w.heap.size + 1) (by rw [eW2]; exact ((Same.refl _ w).alloc _).alloc _) (by rw [eW2]; exact (two_new w _ _).2)
  have K2 : Hid (Kept w W2) := by rw [eW2]; exact ((Same.refl _ w).alloc _).alloc _
  have S2 : Hid (W2.heap.size = w.heap.size + 2) := by rw [eW2]; show _ = _; simp
  unfold ouz at B2 eW2
  clear HQ
  go_enter Tryd.func16, Tryd.ntmps16
  go_upto_region 2 with fail
  rw [← eW2]
  clear eW2
  go_wp2_with fail
  refine Calls.mono (HO.out _ _ Q2.out) ?_
  rintro e w1 ⟨a, c, rfl, o1, q1, m1⟩
  have B1 : Hid _ := (m1.block _ (lt_of_heap B2.out) (by omega)).trans B2.out
  have K1 : Hid (Kept w w1) := Same.trans K2.out m1 (fun i hi e => by omega)
  have O1 : Hid (OwV (w.heap.size + 1) w1 (.slice a ls.length c) ls) := o1.base (by have := S2.out; omega)
  have Q1 : Hid _ := q1
  clear o1 q1 m1 B2 K2 Q2 S2 HO
  obtain ⟨W3, eW3⟩ : ∃ W3, W3 = w1.alloc (.cells #[.int .i64 kd, .int .i64 cd, .int .i64 off, .int .i64 tn, .int .i64 tt, .slice a ls.length c] 25 (0, 0)) := ⟨_, rfl⟩
  have k3 : Kept w1 W3 := by rw [eW3]; exact (Same.refl _ w1).alloc _
  have B3 : Hid (W3.heap[w.heap.size]? = some (.cells ouz 25 (0, 0))) := (k3.block _ (lt_of_heap B1.out) (fun e => e)).trans B1.out
  have C3 : Hid (W3.heap[w1.heap.size]? = some (.cells #[.int .i64 kd, .int .i64 cd, .int .i64 off, .int .i64 tn, .int .i64 tt, .slice a ls.length c] 25 (0, 0))) := by rw [eW3]; exact heap_new w1 _
  have K3 : Hid (Kept w W3) := K1.out.trans' k3
  have O3 : Hid (OwV (w.heap.size + 1) W3 (.slice a ls.length c) ls) := O1.out.on k3
  have Q3 : Hid _ := Q1.out.kept k3
  unfold ouz at B3
  go_upto_region 3 with fail
  rw [← eW3]
  clear eW3 k3 B1 K1 O1 Q1
  obtain ⟨r0, r1, r2, r3, r4⟩ := Q3.out.facts
  obtain ⟨q0, q1, q2, q3, q4, q5⟩ := ou_obj B3.out
  obtain ⟨c0, c1, c2, c3, c4, c5⟩ := ou_obj C3.out
  have g0 := frozen_of B3.out 0
  have g1 := frozen_of B3.out 1
  have g2 := frozen_of B3.out 2
  have g3 := frozen_of B3.out 3
  have g4 := frozen_of B3.out 4
  have g5 := frozen_of B3.out 5
  have lq := lt_of_heap B3.out
  have lc := lt_of_heap C3.out
  have k9 := put6o_same W3 w.heap.size (.int .i64 0) (.int .i64 0) (.int .i64 0) (.int .i64 0) (.int .i64 0) (.slice none 0 0)
  have HZ : Hid (Kept w (put6o W3 w.heap.size (.int .i64 0) (.int .i64 0) (.int .i64 0) (.int .i64 0) (.int .i64 0) (.slice none 0 0))) := Same.trans K3.out k9 (fun i hi e => by omega)
  clear k9
  cases sf with
  | true =>
    have EP2 : Hid (PT = (ou00, 220)) := EP.out
    clear EP
    go_wp2_with fail
    refine bodyPost_ret (results_ct (a := 2) (b := 3) (t := 25) rfl rfl (loadVar_ou (put6o_at B3.out _ _ _ _ _ _))) rfl ?_
    rw [EP2.out]
    exact ⟨none, 0, rfl, Vi.Own.nil _ _ _ _ _, HZ.out⟩
  | false =>
    cases sl with
    | cons x xs =>
      have EP2 : Hid (PT = (ou00, 220)) := EP.out
      clear EP
      go_wp2_with fail
      refine bodyPost_ret (results_ct (a := 2) (b := 3) (t := 25) rfl rfl (loadVar_ou (put6o_at B3.out _ _ _ _ _ _))) rfl ?_
      rw [EP2.out]
      exact ⟨none, 0, rfl, Vi.Own.nil _ _ _ _ _, HZ.out⟩
    | nil =>
      go_wp2_with fail
      refine Calls.mono (HV.out _ _ _ (Vi.Own.at Vi.ekV O3.out)) ?_
      rintro e w4 ⟨rfl, k4⟩
      have k4' := Vi.Grw.kept k4
      have B4 : Hid _ := (k4'.block _ (lt_of_heap B3.out) (fun e => e)).trans B3.out
      have C4 : Hid _ := (k4'.block _ (lt_of_heap C3.out) (fun e => e)).trans C3.out
      have K4 : Hid (Kept w w4) := K3.out.trans' k4'
      have O4 : Hid (OwV (w.heap.size + 1) w4 (.slice a ls.length c) ls) := Vi.Own.on O3.out k4'
      clear k4 k4' q0 q1 q2 q3 q4 q5 c0 c1 c2 c3 c4 c5 g0 g1 g2 g3 g4 g5 lq lc r0 r1 r2 r3 r4 HZ B3 C3 K3 O3 Q3 HV
      obtain ⟨q0, q1, q2, q3, q4, q5⟩ := ou_obj B4.out
      obtain ⟨c0, c1, c2, c3, c4, c5⟩ := ou_obj C4.out
      have g0 := frozen_of B4.out 0
      have g1 := frozen_of B4.out 1
      have g2 := frozen_of B4.out 2
      have g3 := frozen_of B4.out 3
      have g4 := frozen_of B4.out 4
      have g5 := frozen_of B4.out 5
      have lq := lt_of_heap B4.out
      have lc := lt_of_heap C4.out
      cases ok with
      | false =>
        have EP2 : Hid (PT = (ou00, 220)) := EP.out
        have k9 := put6o_same w4 w.heap.size (.int .i64 0) (.int .i64 0) (.int .i64 0) (.int .i64 0) (.int .i64 0) (.slice none 0 0)
        have HZ : Hid (Kept w (put6o w4 w.heap.size (.int .i64 0) (.int .i64 0) (.int .i64 0) (.int .i64 0) (.int .i64 0) (.slice none 0 0))) := Same.trans K4.out k9 (fun i hi e => by omega)
        clear EP k9
        go_wp2_with fail
        refine bodyPost_ret (results_ct (a := 2) (b := 3) (t := 25) rfl rfl (loadVar_ou (put6o_at B4.out _ _ _ _ _ _))) rfl ?_
        rw [EP2.out]
        exact ⟨none, 0, rfl, Vi.Own.nil _ _ _ _ _, HZ.out⟩
      | true =>
        have EP2 : Hid (PT = (⟨kd, cd, off, tn, tt, ls⟩, 0)) := EP.out
        have k9 : Hid _ := put6o_same w4 w.heap.size (.int .i64 kd) (.int .i64 cd) (.int .i64 off) (.int .i64 tn) (.int .i64 tt) (.slice a ls.length c)
        clear EP
        go_wp2_with fail
        refine bodyPost_ret (results_ct (a := 2) (b := 3) (t := 25) rfl rfl (loadVar_ou (put6o_at B4.out _ _ _ _ _ _))) rfl ?_
        rw [EP2.out]
        refine ⟨a, c, rfl, ?_, Same.trans K4.out k9.out (fun i hi e => by omega)⟩
        exact Vi.Own.base (Vi.Own.kept O4.out k9.out (fun b hb e => by have := (Vi.Own.block O4.out hb).1; omega)) (by omega)
end Go.Proofs.YtfhaiklfbnfdlaaDoor
