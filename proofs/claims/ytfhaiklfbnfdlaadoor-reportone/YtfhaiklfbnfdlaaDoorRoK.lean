/- What is proved: report's reader: a violation, violations; conditions: lengths, and that the library's variable of the greatest length holds a number. -/
import Derived.Test.YtfhaiklfbnfdlaaDoorRoH
import Derived.Test.YtfhaiklfbnfdlaaDoorRoE
namespace Go.Proofs.YtfhaiklfbnfdlaaDoor
open Go.RowKit

def put12 (w : World) (b : Nat) (v0 v1 v2 v3 v4 v5 v6 v7 v8 v9 v10 v11 : Value) : World := (((((((((((w.setCell ⟨b, 0, none⟩ v0).setCell ⟨b, 1, none⟩ v1).setCell ⟨b, 2, none⟩ v2).setCell ⟨b, 3, none⟩ v3).setCell ⟨b, 4, none⟩ v4).setCell ⟨b, 5, none⟩ v5).setCell ⟨b, 6, none⟩ v6).setCell ⟨b, 7, none⟩ v7).setCell ⟨b, 8, none⟩ v8).setCell ⟨b, 9, none⟩ v9).setCell ⟨b, 10, none⟩ v10).setCell ⟨b, 11, none⟩ v11
theorem put12_at {w : World} {b : Nat} {T : TypeId} {u0 u1 u2 u3 u4 u5 u6 u7 u8 u9 u10 u11 : Value} (h : w.heap[b]? = some (.cells #[u0, u1, u2, u3, u4, u5, u6, u7, u8, u9, u10, u11] T (0, 0))) (v0 v1 v2 v3 v4 v5 v6 v7 v8 v9 v10 v11 : Value) : (put12 w b v0 v1 v2 v3 v4 v5 v6 v7 v8 v9 v10 v11).heap[b]? = some (.cells #[v0, v1, v2, v3, v4, v5, v6, v7, v8, v9, v10, v11] T (0, 0)) :=
  (setCell_at (setCell_at (setCell_at (setCell_at (setCell_at (setCell_at (setCell_at (setCell_at (setCell_at (setCell_at (setCell_at (setCell_at h 0 _) 1 _) 2 _) 3 _) 4 _) 5 _) 6 _) 7 _) 8 _) 9 _) 10 _) 11 _).trans (by simp)
theorem put12_same (w : World) (b : Nat) (v0 v1 v2 v3 v4 v5 v6 v7 v8 v9 v10 v11 : Value) : Same (fun k => k = b) w (put12 w b v0 v1 v2 v3 v4 v5 v6 v7 v8 v9 v10 v11) :=
  ((((((((((((Same.refl (fun k => k = b) w).setCell _ (.inr rfl) _).setCell _ (.inr rfl) _).setCell _ (.inr rfl) _).setCell _ (.inr rfl) _).setCell _ (.inr rfl) _).setCell _ (.inr rfl) _).setCell _ (.inr rfl) _).setCell _ (.inr rfl) _).setCell _ (.inr rfl) _).setCell _ (.inr rfl) _).setCell _ (.inr rfl) _).setCell _ (.inr rfl) _
def vlz : Array Value := #[.int .i64 0, .int .i64 0, .int .i64 0, .int .i64 0, .int .i64 0, .string ⟨#[]⟩, .bool false, .string ⟨#[]⟩, .bool false, .string ⟨#[]⟩, .int .i64 0, .int .i64 0]
theorem loadVar_vl {w : World} {b : Nat} {a0 a1 a2 a3 a4 aa ab : Int} {s5 s7 s9 : ByteArray} {b6 b8 : Bool} (h : w.heap[b]? = some (.cells #[.int .i64 a0, .int .i64 a1, .int .i64 a2, .int .i64 a3, .int .i64 a4, .string s5, .bool b6, .string s7, .bool b8, .string s9, .int .i64 aa, .int .i64 ab] 41 (0, 0))) :
    (loadVar 41 ⟨b, 0, none⟩).run Tryd.prog w = .ok (.agg #[.int .i64 a0, .int .i64 a1, .int .i64 a2, .int .i64 a3, .int .i64 a4, .string s5, .bool b6, .string s7, .bool b8, .string s9, .int .i64 aa, .int .i64 ab]) w := by
  obtain ⟨c0, c1, c2, c3, c4, c5, c6, c7, c8, c9, c10, c11⟩ := vl_obj h
  clear h
  go_simp
theorem results_c1 {fn : Func} {a t : Nat} {P : Program} {w : World} {tmps : Array Value} {ad : Addr} {v : Value} (h : fn.results = #[.cell a t]) (ha : tmps.getD a undef = .pointer (some ad)) (hv : (loadVar t ad).run P w = .ok v w) : (results fn tmps).run P w = .ok v w := by
  have ha' : tmps[a]?.getD undef = .pointer (some ad) := by simpa using ha
  simp [results, h, ha', asAddr, hv]
/-- The states of the reader, one behind the other. -/
def vs1 (s : Rs) : Rs := kdT vWords 32 s
def vs2 (s : Rs) : Rs := nuT [116, 105, 109, 101, 32] 32 (vs1 s)
def vs3 (s : Rs) : Rs := nuT [116, 120, 110, 32] 32 (vs2 s)
def vs4 (s : Rs) : Rs := plT [111, 112, 32] (vs3 s)
def vs5 (s : Rs) : Rs := plT [119, 105, 116, 110, 101, 115, 115, 32] (vs4 s)
def vs6 (s : Rs) : Rs := woT [107, 101, 121, 32] (vs5 s)
def vs7 (s : Rs) : Rs := vaT [119, 97, 110, 116, 32] (vs6 s)
def vs8 (s : Rs) : Rs := vaT [103, 111, 116, 32] (vs7 s)
def vs9 (s : Rs) : Rs := nuT [102, 114, 111, 109, 32] 32 (vs8 s)
def vsA (s : Rs) : Rs := nuT [116, 111, 32] 10 (vs9 s)
/-- The violation that is read. -/
def vioR (s : Rs) : Vi.Vl := ⟨(kdN vWords 32 s : Nat), (nuN [116, 105, 109, 101, 32] 32 (vs1 s) : Nat), (nuN [116, 120, 110, 32] 32 (vs2 s) : Nat), plN [111, 112, 32] (vs3 s), plN [119, 105, 116, 110, 101, 115, 115, 32] (vs4 s), bts (woN [107, 101, 121, 32] (vs5 s)), vaB [119, 97, 110, 116, 32] (vs6 s), bts (vaN [119, 97, 110, 116, 32] (vs6 s)), vaB [103, 111, 116, 32] (vs7 s), bts (vaN [103, 111, 116, 32] (vs7 s)), (nuN [102, 114, 111, 109, 32] 32 (vs8 s) : Nat), (nuN [116, 111, 32] 10 (vs9 s) : Nat)⟩
theorem Rs.le.vs {s : Rs} (h : s.le) : (vsA s).le := (((((((((h.kd _ _).nu _ _).nu _ _).pl _).pl _).wo _).va _).va _).nu _ _).nu _ _
/-- The reader, the result's box, the violation's box, since w. -/
structure Vx (w W : World) (rb : Nat) (s : Rs) (arr : Array Value) : Prop where
  rd : Rq W rb s
  b2 : W.heap[w.heap.size]? = some (.cells vlz 41 (0, 0))
  b3 : W.heap[w.heap.size + 1]? = some (.cells arr 41 (0, 0))
  mv : Mv rb w W
  lt : rb < w.heap.size
  gs : 2 < w.heap.size ∧ 0 < w.heap.size ∧ 1 < w.heap.size
theorem Rq.gs {w : World} {rb : Nat} {s : Rs} (h : Rq w rb s) : 2 < w.heap.size ∧ 0 < w.heap.size ∧ 1 < w.heap.size := by
  obtain ⟨m, hm⟩ := h.mx
  exact ⟨World.block_lt_of_cell? w _ hm, World.block_lt_of_cell? w _ (h.wd.1 0 _ rfl), World.block_lt_of_cell? w _ (h.wd.2 0 _ rfl)⟩
theorem Vx.start {w : World} {rb : Nat} {s : Rs} (h : Rq w rb s) : Vx w ((w.alloc (.cells vlz 41 (0, 0))).alloc (.cells vlz 41 (0, 0))) rb s vlz :=
  have k : Kept w ((w.alloc (.cells vlz 41 (0, 0))).alloc (.cells vlz 41 (0, 0))) := ((Same.refl _ w).alloc _).alloc _
  ⟨h.kept k, (two_new w _ _).1, (two_new w _ _).2, k.to _, lt_of_heap h.rd, h.gs⟩
theorem Vx.on {w W W' : World} {rb : Nat} {s s' : Rs} {arr : Array Value} (h : Vx w W rb s arr) (r : Rq W' rb s') (m : Mv rb W W') : Vx w W' rb s' arr :=
  have lt := h.lt
  ⟨r, (m.block _ (lt_of_heap h.b2) (by omega)).trans h.b2, (m.block _ (lt_of_heap h.b3) (by omega)).trans h.b3, h.mv.trans' m, h.lt, h.gs⟩
theorem Vx.set {w W : World} {rb : Nat} {s : Rs} {arr : Array Value} (h : Vx w W rb s arr) (i : Nat) (x : Value) : Vx w (W.setCell ⟨w.heap.size + 1, i, none⟩ x) rb s (arr.setIfInBounds i x) :=
  have k : Same (fun j => j = w.heap.size + 1) W (W.setCell ⟨w.heap.size + 1, i, none⟩ x) := (Same.refl (fun j => j = w.heap.size + 1) W).setCell _ (.inr rfl) _
  have lt := h.lt
  have hr : (W.setCell ⟨w.heap.size + 1, i, none⟩ x).heap[rb]? = some (.cells #[tx s.l, .bool s.f] 57 (0, 0)) := (k.block _ (lt_of_heap h.rd.rd) (by omega)).trans h.rd.rd
  have gm : ∀ (g j : Nat) v, g < w.heap.size → W.cell? ⟨g, j, none⟩ = some v → (W.setCell ⟨w.heap.size + 1, i, none⟩ x).cell? ⟨g, j, none⟩ = some v := fun g j v hg hv => (k.cell (p := ⟨g, j, none⟩) (World.block_lt_of_cell? W _ hv) (by show ¬ g = _; omega)).trans hv
  ⟨⟨hr, (h.rd.mx.elim fun m hm => ⟨m, gm _ _ _ h.gs.1 hm⟩), ⟨fun j v hv => gm _ _ _ h.gs.2.1 (h.rd.wd.1 j v hv), fun j v hv => gm _ _ _ h.gs.2.2 (h.rd.wd.2 j v hv)⟩⟩, (k.block _ (lt_of_heap h.b2) (by omega)).trans h.b2, setCell_at h.b3 i x, Same.trans h.mv k (fun j hj e => by omega), h.lt, h.gs⟩
theorem Vx.off {w W W' : World} {rb b : Nat} {s : Rs} {arr : Array Value} (h : Vx w W rb s arr) (k : Same (fun j => j = b) W W') (hb : rb ≠ b) (hg : ∀ g, g < w.heap.size → g ≠ b) : Rq W' rb s :=
  have gm : ∀ (g j : Nat) v, g < w.heap.size → W.cell? ⟨g, j, none⟩ = some v → W'.cell? ⟨g, j, none⟩ = some v := fun g j _ hl hv => (k.cell (p := ⟨g, j, none⟩) (World.block_lt_of_cell? W _ hv) (hg g hl)).trans hv
  ⟨(k.block _ (lt_of_heap h.rd.rd) hb).trans h.rd.rd, (h.rd.mx.elim fun m hm => ⟨m, gm _ _ _ h.gs.1 hm⟩), ⟨fun j v hv => gm _ _ _ h.gs.2.1 (h.rd.wd.1 j v hv), fun j v hv => gm _ _ _ h.gs.2.2 (h.rd.wd.2 j v hv)⟩⟩
theorem Vx.facts {w W : World} {rb : Nat} {s : Rs} {arr : Array Value} (h : Vx w W rb s arr) : w.heap.size + 1 < W.heap.size ∧ (∀ i, W.cell? ⟨w.heap.size + 1, i, none⟩ = arr[i]?) ∧ ∀ i, W.frozen? ⟨w.heap.size + 1, i, none⟩ = false := ⟨lt_of_heap h.b3, fun i => cell_of h.b3 i, fun i => frozen_of h.b3 i⟩
set_option maxRecDepth 100000 in
set_option maxHeartbeats 3200000 in
theorem pviol {w : World} {rb : Nat} {s : Rs} (h : Rq w rb s) (hs : s.le) : Calls Tryd.prog 68 #[rdp rb] w fun e w' => e = .returned (Vi.vlV (vioR s)) ∧ Rq w' rb (vsA s) ∧ Mv rb w w' := by
  have HK : Hid (∀ W s, Rq W rb s → s.le → _) := fun W s (q : Rq W rb s) l => pvkind q l
  have HN : Hid (∀ W s p c, Rq W rb s → s.le → _) := fun W s p c (q : Rq W rb s) l => pnumber q l p c
  have HP : Hid (∀ W s (p : List UInt8), p.length ≤ 100 → Rq W rb s → s.le → _) := fun W s p hp (q : Rq W rb s) l => pplace q l p hp
  have HW : Hid (∀ W s p, Rq W rb s → s.le → _) := fun W s p (q : Rq W rb s) l => pword q l p
  have HV : Hid (∀ W s (p : List UInt8), p.length ≤ 100 → Rq W rb s → s.le → _) := fun W s p hp (q : Rq W rb s) l => pvalue q l p hp
  have T0 : Hid _ := Vx.start h
  have L0 : Hid (s.le) := hs
  have EV0 : vioR s = vioR s := rfl
  conv at EV0 => rhs; unfold vioR vs9 vs8 vs7 vs6 vs5 vs4 vs3 vs2 vs1
  have ES0 : vsA s = vsA s := rfl
  conv at ES0 => rhs; unfold vsA vs9 vs8 vs7 vs6 vs5 vs4 vs3 vs2 vs1
  have EV : Hid _ := EV0
  have ES : Hid _ := ES0
  clear EV0 ES0
  generalize vioR s = VR at *
  generalize vsA s = VS at *
  unfold vlz at T0
  clear h hs
  go_enter Tryd.func68, Tryd.ntmps68
  obtain ⟨Z0, eZ0⟩ : ∃ Z0, Z0 = (w.alloc (.cells #[.int .i64 0, .int .i64 0, .int .i64 0, .int .i64 0, .int .i64 0, .string ⟨#[]⟩, .bool false, .string ⟨#[]⟩, .bool false, .string ⟨#[]⟩, .int .i64 0, .int .i64 0] 41 (0, 0))).alloc (.cells #[.int .i64 0, .int .i64 0, .int .i64 0, .int .i64 0, .int .i64 0, .string ⟨#[]⟩, .bool false, .string ⟨#[]⟩, .bool false, .string ⟨#[]⟩, .int .i64 0, .int .i64 0] 41 (0, 0)) := ⟨_, rfl⟩
  rw [← eZ0] at T0
  go_upto_region 2 with fail
  rw [← eZ0]
  clear eZ0
  go_wp2_with fail
  refine Calls.mono (HK.out _ _ T0.out.rd L0.out) ?_
  rintro e W0 ⟨rfl, r, m⟩
  have t := T0.out.on r m
  have T1 : Hid _ := (t).set 0 (.int .i64 (((kdN vWords 32 s) : Nat) : Int))
  have L1 : Hid ((kdT vWords 32 s).le) := L0.out.kd _ _
  obtain ⟨y0, y1, y2⟩ := t.facts
  have z0 := y2 0
  have x0 := y1 0
  clear r m t T0 L0 y1 y2
  generalize kdT vWords 32 s = a1 at *
  generalize kdN vWords 32 s = k0 at *
  simp at x0
  go_wp2_with fail
  refine Calls.mono (HN.out _ _ [116, 105, 109, 101, 32] 32 T1.out.rd L1.out) ?_
  rintro e W1 ⟨rfl, r, m⟩
  have t := T1.out.on r m
  have T2 : Hid _ := (t).set 1 (.int .i64 (((nuN [116, 105, 109, 101, 32] 32 a1) : Nat) : Int))
  have L2 : Hid ((nuT [116, 105, 109, 101, 32] 32 a1).le) := L1.out.nu _ _
  obtain ⟨y0, y1, y2⟩ := t.facts
  have z0 := y2 1
  have x0 := y1 1
  clear r m t T1 L1 y1 y2
  generalize nuT [116, 105, 109, 101, 32] 32 a1 = a2 at *
  generalize nuN [116, 105, 109, 101, 32] 32 a1 = k1 at *
  simp at x0
  go_wp2_with fail
  refine Calls.mono (HN.out _ _ [116, 120, 110, 32] 32 T2.out.rd L2.out) ?_
  rintro e W2 ⟨rfl, r, m⟩
  have t := T2.out.on r m
  have T3 : Hid _ := (t).set 2 (.int .i64 (((nuN [116, 120, 110, 32] 32 a2) : Nat) : Int))
  have L3 : Hid ((nuT [116, 120, 110, 32] 32 a2).le) := L2.out.nu _ _
  obtain ⟨y0, y1, y2⟩ := t.facts
  have z0 := y2 2
  have x0 := y1 2
  clear r m t T2 L2 y1 y2
  generalize nuT [116, 120, 110, 32] 32 a2 = a3 at *
  generalize nuN [116, 120, 110, 32] 32 a2 = k2 at *
  simp at x0
  go_wp2_with fail
  refine Calls.mono (HP.out _ _ [111, 112, 32] (by decide) T3.out.rd L3.out) ?_
  rintro e W3 ⟨rfl, r, m⟩
  have t := T3.out.on r m
  have T4 : Hid _ := (t).set 3 (.int .i64 (plN [111, 112, 32] a3))
  have L4 : Hid ((plT [111, 112, 32] a3).le) := L3.out.pl _
  obtain ⟨y0, y1, y2⟩ := t.facts
  have z0 := y2 3
  have x0 := y1 3
  clear r m t T3 L3 y1 y2
  generalize plT [111, 112, 32] a3 = a4 at *
  generalize plN [111, 112, 32] a3 = k3 at *
  simp at x0
  go_wp2_with fail
  refine Calls.mono (HP.out _ _ [119, 105, 116, 110, 101, 115, 115, 32] (by decide) T4.out.rd L4.out) ?_
  rintro e W4 ⟨rfl, r, m⟩
  have t := T4.out.on r m
  have T5 : Hid _ := (t).set 4 (.int .i64 (plN [119, 105, 116, 110, 101, 115, 115, 32] a4))
  have L5 : Hid ((plT [119, 105, 116, 110, 101, 115, 115, 32] a4).le) := L4.out.pl _
  obtain ⟨y0, y1, y2⟩ := t.facts
  have z0 := y2 4
  have x0 := y1 4
  clear r m t T4 L4 y1 y2
  generalize plT [119, 105, 116, 110, 101, 115, 115, 32] a4 = a5 at *
  generalize plN [119, 105, 116, 110, 101, 115, 115, 32] a4 = k4 at *
  simp at x0
  go_wp2_with fail
  refine Calls.mono (HW.out _ _ [107, 101, 121, 32] T5.out.rd L5.out) ?_
  rintro e W5 ⟨rfl, r, m⟩
  have t := T5.out.on r m
  have T6 : Hid _ := (t).set 5 (tx (woN [107, 101, 121, 32] a5))
  have L6 : Hid ((woT [107, 101, 121, 32] a5).le) := L5.out.wo _
  obtain ⟨y0, y1, y2⟩ := t.facts
  have z0 := y2 5
  have x0 := y1 5
  clear r m t T5 L5 y1 y2
  generalize woT [107, 101, 121, 32] a5 = a6 at *
  generalize woN [107, 101, 121, 32] a5 = k5 at *
  simp at x0
  go_wp2_with fail
  refine Calls.mono (HV.out _ _ [119, 97, 110, 116, 32] (by decide) T6.out.rd L6.out) ?_
  rintro e W6 ⟨rfl, r, m⟩
  have t := T6.out.on r m
  have T7 : Hid _ := ((t).set 6 (.bool (vaB [119, 97, 110, 116, 32] a6))).set 7 (tx (vaN [119, 97, 110, 116, 32] a6))
  have L7 : Hid ((vaT [119, 97, 110, 116, 32] a6).le) := L6.out.va _
  obtain ⟨y0, y1, y2⟩ := t.facts
  have z0 := y2 6
  have x0 := y1 6
  have z1 := y2 7
  have x1 := y1 7
  clear r m t T6 L6 y1 y2
  generalize vaT [119, 97, 110, 116, 32] a6 = a7 at *
  generalize vaB [119, 97, 110, 116, 32] a6 = b6 at *
  generalize vaN [119, 97, 110, 116, 32] a6 = k6 at *
  simp at x0
  simp at x1
  go_wp2_with fail
  refine Calls.mono (HV.out _ _ [103, 111, 116, 32] (by decide) T7.out.rd L7.out) ?_
  rintro e W7 ⟨rfl, r, m⟩
  have t := T7.out.on r m
  have T8 : Hid _ := ((t).set 8 (.bool (vaB [103, 111, 116, 32] a7))).set 9 (tx (vaN [103, 111, 116, 32] a7))
  have L8 : Hid ((vaT [103, 111, 116, 32] a7).le) := L7.out.va _
  obtain ⟨y0, y1, y2⟩ := t.facts
  have z0 := y2 8
  have x0 := y1 8
  have z1 := y2 9
  have x1 := y1 9
  clear r m t T7 L7 y1 y2
  generalize vaT [103, 111, 116, 32] a7 = a8 at *
  generalize vaB [103, 111, 116, 32] a7 = b7 at *
  generalize vaN [103, 111, 116, 32] a7 = k7 at *
  simp at x0
  simp at x1
  go_wp2_with fail
  refine Calls.mono (HN.out _ _ [102, 114, 111, 109, 32] 32 T8.out.rd L8.out) ?_
  rintro e W8 ⟨rfl, r, m⟩
  have t := T8.out.on r m
  have T9 : Hid _ := (t).set 10 (.int .i64 (((nuN [102, 114, 111, 109, 32] 32 a8) : Nat) : Int))
  have L9 : Hid ((nuT [102, 114, 111, 109, 32] 32 a8).le) := L8.out.nu _ _
  obtain ⟨y0, y1, y2⟩ := t.facts
  have z0 := y2 10
  have x0 := y1 10
  clear r m t T8 L8 y1 y2
  generalize nuT [102, 114, 111, 109, 32] 32 a8 = a9 at *
  generalize nuN [102, 114, 111, 109, 32] 32 a8 = k8 at *
  simp at x0
  go_wp2_with fail
  refine Calls.mono (HN.out _ _ [116, 111, 32] 10 T9.out.rd L9.out) ?_
  rintro e W9 ⟨rfl, r, m⟩
  have t := T9.out.on r m
  have T10 : Hid _ := (t).set 11 (.int .i64 (((nuN [116, 111, 32] 10 a9) : Nat) : Int))
  have L10 : Hid ((nuT [116, 111, 32] 10 a9).le) := L9.out.nu _ _
  obtain ⟨y0, y1, y2⟩ := t.facts
  have z0 := y2 11
  have x0 := y1 11
  clear r m t T9 L9 y1 y2
  generalize nuT [116, 111, 32] 10 a9 = a10 at *
  generalize nuN [116, 111, 32] 10 a9 = k9 at *
  simp at x0
  obtain ⟨WZ, eZ⟩ : ∃ WZ, WZ = W9.setCell ⟨w.heap.size + 1, 11, none⟩ (.int .i64 (k9 : Int)) := ⟨_, rfl⟩
  have TF : Hid (Vx w WZ rb a10 #[.int .i64 (k0 : Int), .int .i64 (k1 : Int), .int .i64 (k2 : Int), .int .i64 k3, .int .i64 k4, tx k5, .bool b6, tx k6, .bool b7, tx k7, .int .i64 (k8 : Int), .int .i64 (k9 : Int)]) := by
    have h9 := T10.out
    rw [← eZ] at h9
    simp at h9
    exact h9
  go_upto_region 12 with fail
  rw [← eZ]
  clear eZ T10 y0 z0 x0
  obtain ⟨d0, d1, d2, d3, d4, d5, d6, d7, d8, d9, d10, d11⟩ := vl_obj TF.out.b3
  have B2 : Hid _ := TF.out.b2
  unfold vlz at B2
  obtain ⟨q0, q1, q2, q3, q4, q5, q6, q7, q8, q9, q10, q11⟩ := vl_obj B2.out
  have g0 := frozen_of B2.out 0
  have g1 := frozen_of B2.out 1
  have g2 := frozen_of B2.out 2
  have g3 := frozen_of B2.out 3
  have g4 := frozen_of B2.out 4
  have g5 := frozen_of B2.out 5
  have g6 := frozen_of B2.out 6
  have g7 := frozen_of B2.out 7
  have g8 := frozen_of B2.out 8
  have g9 := frozen_of B2.out 9
  have g10 := frozen_of B2.out 10
  have g11 := frozen_of B2.out 11
  have lq := lt_of_heap B2.out
  have ld := lt_of_heap TF.out.b3
  go_wp2_with fail
  refine bodyPost_ret (results_c1 (a := 2) (t := 41) rfl rfl (loadVar_vl (put12_at B2.out _ _ _ _ _ _ _ _ _ _ _ _))) rfl ?_
  have k9' := put12_same WZ w.heap.size (.int .i64 (k0 : Int)) (.int .i64 (k1 : Int)) (.int .i64 (k2 : Int)) (.int .i64 k3) (.int .i64 k4) (tx k5) (.bool b6) (tx k6) (.bool b7) (tx k7) (.int .i64 (k8 : Int)) (.int .i64 (k9 : Int))
  rw [EV.out, ES.out]
  refine ⟨rfl, ?_, ?_⟩
  · exact TF.out.off k9' (by have := TF.out.lt; omega) (fun g hg => by omega)
  · exact Same.trans TF.out.mv k9' (fun i hi e => by omega)
end Go.Proofs.YtfhaiklfbnfdlaaDoor

namespace Go.Proofs.YtfhaiklfbnfdlaaDoor
open Go.RowKit

abbrev OwV (base : Nat) (w : World) (v : Value) (l : List Vi.Vl) : Prop := Vi.Own Vi.vl1 12 41 base w v l
theorem app_vio {w : World} {base g : Nat} {v : Value} {l : List Vi.Vl} {x : Vi.Vl} (h : OwV base w v l) (hg : w.heap[g]? = some (Vi.vlO x)) (hl : l.length ≤ 1000000) (hbase : base ≤ w.heap.size) (ty : TypeId) :
    ∃ v' w', (Builtin.append_ #[23, 23] ty #[v, .slice (some ⟨g, 0, none⟩) 1 1]).run Tryd.prog w = .ok v' w' ∧ OwV base w' v' (l ++ [x]) ∧ Same (fun k => v.ownBlock = some k) w w' ∧ ∀ k, v'.ownBlock = some k → v.ownBlock = some k ∨ w.heap.size ≤ k :=
  Vi.Own.app (ys := [x]) Vi.ekV Tryd.underlying23 Vi.Tryd.infoViol rfl h (fun j y hy => by
    match j, hy with
    | 0, hy =>
      simp at hy
      subst hy
      refine ⟨g, 0, rfl, lt_of_heap hg, fun c u hu => ?_⟩
      rw [cell_of hg, Nat.zero_mul, Nat.add_zero, Nat.zero_add]
      simpa using hu
    | j + 1, hy => simp at hy) (by simp) (by show (l.length + 1 + (l.length + 1) / 4 + 192) * 120 ≤ _; omega) (by show l.length + 1 ≤ _; unfold maxLen; omega) hbase
theorem Rq.off {w w' : World} {rb B : Nat} {s : Rs} {S : Nat → Prop} (h : Rq w rb s) (k : Same S w w') (hS : ∀ j, S j → B ≤ j) (hr : rb < B) (hg : 2 < B ∧ 0 < B ∧ 1 < B) : Rq w' rb s :=
  have gm : ∀ (g j : Nat) v, g < B → w.cell? ⟨g, j, none⟩ = some v → w'.cell? ⟨g, j, none⟩ = some v := fun g j _ hl hv => (k.cell (p := ⟨g, j, none⟩) (World.block_lt_of_cell? w _ hv) (fun e => absurd (hS _ e) (Nat.not_le.2 hl))).trans hv
  ⟨(k.block _ (lt_of_heap h.rd) (fun e => absurd (hS _ e) (Nat.not_le.2 hr))).trans h.rd, (h.mx.elim fun m hm => ⟨m, gm _ _ _ hg.1 hm⟩), ⟨fun j v hv => gm _ _ _ hg.2.1 (h.wd.1 j v hv), fun j v hv => gm _ _ _ hg.2.2 (h.wd.2 j v hv)⟩⟩
/-- The violations that are read, so many at most. -/
def vsR : Nat → Nat → List Vi.Vl → Rs → List Vi.Vl × Rs
  | 0, _, acc, s => (acc, s)
  | n + 1, m, acc, s => if acc.length < m ∧ s.f = false then vsR n m (acc ++ [vioR s]) (vsA s) else (acc, s)
def vsS (m : Nat) (s : Rs) : Rs := if 10000 < m then ⟨s.l, true⟩ else s
theorem vsR_stop {n m : Nat} {acc : List Vi.Vl} {s : Rs} (h : ¬ (acc.length < m ∧ s.f = false)) : vsR n m acc s = (acc, s) := by
  cases n with
  | zero => rfl
  | succ n => unfold vsR; rw [if_neg h]
theorem vsR_go {n m : Nat} {acc : List Vi.Vl} {s : Rs} (h : acc.length < m ∧ s.f = false) : vsR (n + 1) m acc s = vsR n m (acc ++ [vioR s]) (vsA s) := by
  conv => lhs; unfold vsR
  rw [if_pos h]
/-- The reader, the violations read, since w. -/
structure Vz (w W : World) (rb : Nat) (s : Rs) (v : Value) (acc : List Vi.Vl) : Prop where
  rd : Rq W rb s
  own : OwV w.heap.size W v acc
  mv : Mv rb w W
  lt : rb < w.heap.size
  gs : 2 < w.heap.size ∧ 0 < w.heap.size ∧ 1 < w.heap.size
theorem Vz.on {w W W' : World} {rb : Nat} {s s' : Rs} {v : Value} {acc : List Vi.Vl} (h : Vz w W rb s v acc) (r : Rq W' rb s') (m : Mv rb W W') : Vz w W' rb s' v acc :=
  ⟨r, h.own.kept m (fun b hb e => by have := (h.own.block hb).1; have := h.lt; omega), h.mv.trans' m, h.lt, h.gs⟩
theorem Vz.alloc {w W : World} {rb : Nat} {s : Rs} {v : Value} {acc : List Vi.Vl} (h : Vz w W rb s v acc) (o : Obj) : Vz w (W.alloc o) rb s v acc := h.on (h.rd.kept ((Same.refl _ W).alloc o)) (Kept.to ((Same.refl (fun _ => False) W).alloc o) _)
theorem Vz.grow {w W W' : World} {rb : Nat} {s : Rs} {v v' : Value} {acc acc' : List Vi.Vl} (h : Vz w W rb s v acc) (o : OwV w.heap.size W' v' acc') (k : Same (fun j => v.ownBlock = some j) W W') : Vz w W' rb s v' acc' :=
  ⟨h.rd.off k (fun j hj => (h.own.block hj).1) h.lt h.gs, o, Same.trans h.mv k (fun i hi e => by have := (h.own.block e).1; omega), h.lt, h.gs⟩
set_option maxRecDepth 100000 in
set_option maxHeartbeats 1600000 in
theorem pviols {w : World} {rb : Nat} {s : Rs} (h : Rq w rb s) (hs : s.le) (m : Nat) (hm : m ≤ 9223372036854775807) : Calls Tryd.prog 52 #[rdp rb, .int .i64 (m : Int)] w fun e w' => ∃ v, e = .returned v ∧ OwV w.heap.size w' v (vsR m m [] (vsS m s)).1 ∧ Rq w' rb (vsR m m [] (vsS m s)).2 ∧ Mv rb w w' := by
  have HV : Hid (∀ W s, Rq W rb s → s.le → _) := fun W s (q : Rq W rb s) l => pviol q l
  have HLE : Hid (∀ s : Rs, s.le → (vsA s).le) := fun s l => l.vs
  obtain ⟨P, eP⟩ : ∃ P, P = vsR m m [] (vsS m s) := ⟨_, rfl⟩
  have EP : Hid (vsR m m [] (vsS m s) = P) := eP.symm
  rw [← eP]
  have LT : Hid (rb < w.heap.size ∧ (2 < w.heap.size ∧ 0 < w.heap.size ∧ 1 < w.heap.size)) := ⟨lt_of_heap h.rd, h.gs⟩
  obtain ⟨h0, h1, h2, h3, h4⟩ := h.facts
  have hmi : (m : Int) ≤ 9223372036854775807 := by omega
  clear eP
  by_cases hbig : 10000 < m
  · have c1 : decide ((m : Int) > 10000) = true := decide_eq_true (by omega)
    have c2 : 10000 < (m : Int) := by omega
    have HP : Hid _ := h.put1 true
    have ES : vsS m s = ⟨s.l, true⟩ := if_pos hbig
    rw [ES] at EP
    have HZ : Hid (Vz w (w.setCell ⟨rb, 1, none⟩ (.bool true)) rb ⟨s.l, true⟩ (.slice none 0 0) []) := ⟨HP.out.1, Vi.Own.nil _ _ _ _ _, HP.out.2, LT.out.1, LT.out.2⟩
    have L0 : Hid ((⟨s.l, true⟩ : Rs).le) := hs
    have EF : Hid (P.1 = [] ∧ P.2 = ⟨s.l, true⟩) := by
      rw [← EP.out, vsR_stop (by simp)]
      exact ⟨rfl, rfl⟩
    have EN : Hid (∀ n, vsR n m [] ⟨s.l, true⟩ = P) := fun n => by rw [vsR_stop (by simp), ← EP.out, vsR_stop (by simp)]
    clear h hs hbig HV HLE ES HP
    generalize s.l = sl at *
    go_enter Tryd.func52, Tryd.ntmps52
    go_wp2_with fail
    go_loopw [5] (fun v5 W => v5 = .slice none 0 0 ∧ Vz w W rb ⟨sl, true⟩ (.slice none 0 0) []) (fun v5 _ => 0)
    case atStart => exact ⟨rfl, HZ.out⟩
    case round =>
      obtain ⟨rfl, hz⟩ := hrel
      rename World => WL
      have Z4 : Hid _ := hz
      obtain ⟨h0, h1, h2, h3, h4⟩ := hz.rd.facts
      clear hz HZ
      have f1 : (0 : Int) < (m : Int) := by omega
      have f2 : 0 < m := by omega
      go_wp2_with fail
      go_ret
      rw [EF.out.1, EF.out.2]
      exact ⟨_, rfl, Z4.out.own, Z4.out.rd, Z4.out.mv⟩
  · have c1 : decide ((m : Int) > 10000) = false := decide_eq_false (by omega)
    have c2 : ¬ 10000 < (m : Int) := by omega
    have ES : vsS m s = s := if_neg hbig
    rw [ES] at EP
    have HZ : Hid (Vz w w rb s (.slice none 0 0) []) := ⟨h, Vi.Own.nil _ _ _ _ _, Same.refl _ _, LT.out.1, LT.out.2⟩
    have HM : Hid (m ≤ 10000) := by show _ ≤ _; omega
    have L0 : Hid s.le := hs
    clear h hs hbig h0 h1 h2 h3 h4 ES
    go_enter Tryd.func52, Tryd.ntmps52
    go_wp2_with fail
    go_loopw [5] (fun v5 W => ∃ (acc : List Vi.Vl) (s' : Rs) (n : Nat), Vz w W rb s' v5 acc ∧ s'.le ∧ vsR n m acc s' = P ∧ m ≤ acc.length + n ∧ acc.length ≤ 10000) (fun v5 _ => m - (match v5 with | .slice _ k _ => k | _ => 0))
    case atStart => exact ⟨[], s, m, HZ.out, L0.out, EP.out, by simp, Nat.zero_le _⟩
    case round =>
      obtain ⟨acc, s', n, hz, hle, he, hn, hl⟩ := hrel
      rename World => WL
      have Z4 : Hid (Vz w WL rb s' u5 acc) := hz
      have HE : Hid (vsR n m acc s' = P) := he
      have HN : Hid (m ≤ acc.length + n ∧ acc.length ≤ 10000) := ⟨hn, hl⟩
      have L4 : Hid s'.le := hle
      obtain ⟨a5, c5, e5, -⟩ := hz.own.shape
      subst e5
      obtain ⟨h0, h1, h2, h3, h4⟩ := hz.rd.facts
      clear hz he hn hl hle HZ L0
      by_cases hlt : acc.length < m
      · have f1 : (acc.length : Int) < (m : Int) := by omega
        cases hf : s'.f with
        | false =>
          have GO : Hid _ := And.intro hlt hf
          rw [hf] at h2
          have HX : Hid (∃ n', vsR n' m (acc ++ [vioR s']) (vsA s') = P ∧ m ≤ (acc ++ [vioR s']).length + n') := by
            have h9 := HN.out
            obtain ⟨n', rfl⟩ : ∃ n', n = n' + 1 := ⟨n - 1, by omega⟩
            refine ⟨n', (vsR_go GO.out).symm.trans HE.out, ?_⟩
            rw [List.length_append, List.length_singleton]
            omega
          have HLT : Hid (acc.length < m) := hlt
          have HVW : Hid _ := HV.out WL s' Z4.out.rd L4.out
          have LN : Hid (vsA s').le := HLE.out s' L4.out
          have HHM.out : Hid (m ≤ 10000) := HM.out
          clear hlt hf GO HE HV L4
          generalize vioR s' = x at *
          generalize vsA s' = sx at *
          go_wp2_with fail
          refine Calls.mono HVW.out ?_
          rintro e w5 ⟨rfl, r5, m5⟩
          have Z5 : Hid (Vz w w5 rb sx (.slice a5 acc.length c5) acc) := Z4.out.on r5 m5
          have Z6 : Hid (Vz w (w5.alloc (Vi.vlO x)) rb sx (.slice a5 acc.length c5) acc) := Z5.out.alloc _
          have HAP : Hid (∀ ty, _) := fun ty => app_vio (x := x) Z6.out.own (heap_new w5 (Vi.vlO x)) (by have := HN.out.2; omega) (Nat.le_trans (by have := Z5.out.mv.size; simp at this ⊢; omega) (Nat.le_refl _)) ty
          clear r5 m5 h0 h1 h2 h3 h4 Z4 HVW
          simp only [Vi.vlV]
          go_wp2_with (at_builtin; refine wpList_app rfl (.tmp 22) (.tmp 25) 23 23 rfl (.slice a5 acc.length c5) (.slice (some ⟨w5.heap.size, 0, none⟩) 1 1) rfl rfl _ HAP.out ?_; rintro v7 w7 ⟨o7, k7, -⟩; have Z7 : Hid (Vz w w7 rb sx v7 (acc ++ [x])) := Z6.out.grow o7 k7; obtain ⟨a7, c7, e7, -⟩ := o7.shape; have HLEN : Hid (v7 = .slice a7 (acc.length + 1) c7) := (by show _ = _; rw [e7, List.length_append, List.length_singleton]); clear o7 k7 e7)
          go_roundw
          case rel =>
            obtain ⟨n', g1, g2⟩ := HX.out
            exact ⟨acc ++ [x], sx, n', Z7.out, LN.out, g1, g2, by have := HLT.out; have := HHM.out.out; rw [List.length_append, List.length_singleton]; omega⟩
          case measure =>
            rw [HLEN.out]
            have := HLT.out
            simp only
            omega
        | true =>
          rw [hf] at h2
          have EE : Hid (P = (acc, s')) := HE.out.symm.trans (vsR_stop (by rw [hf]; simp))
          clear hf hlt HE HV
          go_wp2_with fail
          go_ret
          rw [EE.out]
          exact ⟨_, rfl, Z4.out.own, Z4.out.rd, Z4.out.mv⟩
      · have f1 : ¬ (acc.length : Int) < (m : Int) := by omega
        have EE : Hid (P = (acc, s')) := HE.out.symm.trans (vsR_stop (fun h => hlt h.1))
        clear hlt HE HV
        go_wp2_with fail
        go_ret
        rw [EE.out]
        exact ⟨_, rfl, Z4.out.own, Z4.out.rd, Z4.out.mv⟩
end Go.Proofs.YtfhaiklfbnfdlaaDoor
