/- What is proved: rows of operations that grow; the code's readTxn; condition: the line's length. -/
import Derived.Test.YtlldgibpajbabaaDoorNoOp
namespace Go.Proofs.YtlldgibpajbabaaDoor
open Go.RowKit

theorem ops_new (w : World) (o : OpM) : OpsAt (w.alloc (.cells #[.int .i64 o.kind, .string o.key, .bool o.found, .string o.value] 49 (0, 0))) (some ⟨w.heap.size, 0, none⟩) [o] := fun i x hx => by
  cases i with
  | zero =>
    simp only [List.getElem?_cons_zero, Option.some.injEq] at hx
    subst hx
    exact ⟨w.heap.size, 0, rfl, by simp [World.size_alloc], (cell_of (heap_new w _) 0).trans rfl, (cell_of (heap_new w _) 1).trans rfl, (cell_of (heap_new w _) 2).trans rfl, (cell_of (heap_new w _) 3).trans rfl⟩
  | succ i => simp at hx
theorem OwnO.txa {base : Nat} {w : World} {t : TxM} {a : Option Addr} {cap : Nat} (o : OwnO base w (.slice a t.ops.length cap) t.ops) : TxA w t (txV t (.slice a t.ops.length cap)) := by
  obtain ⟨a', cap', e, h, -⟩ := OwnO.ops o
  simp only [Value.slice.injEq, true_and] at e
  obtain ⟨rfl, rfl⟩ := e
  exact ⟨a, cap, rfl, h⟩
theorem ops_cells {w : World} {ad : Addr} {l : List OpM} (hl : OpsAt w (some ad) l) (j : Nat) (u : Value) (hu : (opc l)[j]? = some u) : w.cell? (ad.add j) = some u := by
  have hj := (List.getElem?_eq_some_iff.1 hu).1
  rw [length_opc] at hj
  obtain ⟨o, ho⟩ : ∃ o, l[j / 4]? = some o := ⟨_, List.getElem?_eq_getElem (by omega)⟩
  obtain ⟨b', off', e, hb', c0, c1, c2, c3⟩ := hl _ _ ho
  cases e
  rw [Addr.add_lit]
  obtain ⟨g0, g1, g2, g3⟩ := opc_get ho
  have h4 : j % 4 = 0 ∨ j % 4 = 1 ∨ j % 4 = 2 ∨ j % 4 = 3 := by omega
  rcases h4 with h4 | h4 | h4 | h4
  · rw [show j = j / 4 * 4 by omega] at hu ⊢
    rw [g0] at hu
    cases hu
    simpa [Nat.add_assoc] using c0
  · rw [show j = j / 4 * 4 + 1 by omega] at hu ⊢
    rw [g1] at hu
    cases hu
    simpa [Nat.add_assoc] using c1
  · rw [show j = j / 4 * 4 + 2 by omega] at hu ⊢
    rw [g2] at hu
    cases hu
    simpa [Nat.add_assoc] using c2
  · rw [show j = j / 4 * 4 + 3 by omega] at hu ⊢
    rw [g3] at hu
    cases hu
    simpa [Nat.add_assoc] using c3
/-- One operation more behind a row of one's own. -/
theorem app_op_one {w : World} {base : Nat} {v : Value} {xs : List OpM} (o : OpM) (hown : OwnO base w v xs) (hb : xs.length ≤ 1000) (hbase : base ≤ w.heap.size) (ty : TypeId) :
    ∃ v' w', (Builtin.append_ #[23, 23] ty #[v, .slice (some ⟨w.heap.size, 0, none⟩) 1 1]).run Tryd.prog (w.alloc (.cells #[.int .i64 o.kind, .string o.key, .bool o.found, .string o.value] 49)) = .ok v' w' ∧ OwnO base w' v' (xs ++ [o]) ∧ Same (fun k => v.ownBlock = some k) w w' ∧ ∀ k, v'.ownBlock = some k → v.ownBlock = some k ∨ w.heap.size ≤ k := by
  obtain ⟨i0, hi0, hz0, hz1, hz2⟩ := info_parts Tryd.infoOp
  have k0 : Kept w (w.alloc (.cells #[.int .i64 o.kind, .string o.key, .bool o.found, .string o.value] 49 (0, 0))) := (Same.refl _ w).alloc _
  have ho := OwnO.on hown k0
  obtain ⟨v', w', hr, r1, r2, _, r3⟩ := run_append_own_at (P := Tryd.prog) (w := w.alloc (.cells #[.int .i64 o.kind, .string o.key, .bool o.found, .string o.value] 49)) base 23 ty 49 i0 _ 4 48 Tryd.underlying23 hi0 hz0 hz1 hz2 rfl (by decide) v xs.length _ ho ⟨w.heap.size, 0, none⟩ 1 1 (opc [o]) (length_opc [o])
    (fun j u hu => ops_cells (ops_new w o) j u hu) (opc_one _) (by unfold maxLen; omega) (by omega) (by simp [World.size_alloc]; omega)
  rw [← opc_append] at r1
  refine ⟨v', w', hr, by rw [OwnO, List.length_append]; exact r1, (Kept.to k0 _).trans' (Same.of_grown r2 (fun k e => e)), fun k hk => ?_⟩
  rcases r3 with e | e
  · exact .inl (e ▸ hk)
  · rw [e] at hk
    cases hk
    rw [World.size_alloc]
    exact .inr (by omega)
end Go.Proofs.YtlldgibpajbabaaDoor

namespace Go.Proofs.YtlldgibpajbabaaDoor
open Go.RowKit

/-- The reader, the result's box, the transaction's box and its operations, since w. -/
structure Tb (w W : World) (s : Rs) (arr : Array Value) (v : Value) (acc : List OpM) : Prop where
  rd : RdAt W (w.heap.size + 1) s
  bq : W.heap[w.heap.size]? = some (.cells txz 25 (0, 0))
  bt : W.heap[w.heap.size + 2]? = some (.cells arr 25 (0, 0))
  own : OwnO (w.heap.size + 3) W v acc
  kp : Kept w W
theorem OwnO.blk {base : Nat} {w : World} {v : Value} {l : List OpM} (h : OwnO base w v l) {k : Nat} (hk : v.ownBlock = some k) : base ≤ k ∧ k < w.heap.size := by
  rcases h.2 with ⟨rfl, hn⟩ | ⟨g, cap, cur, rfl, hb, hg, h1⟩
  · simp [Value.ownBlock] at hk
  · simp [Value.ownBlock] at hk
    subst hk
    exact ⟨hb, lt_of_heap hg⟩
theorem Tb.start (w : World) (l : List UInt8) : Tb w (((w.alloc (.cells txz 25 (0, 0))).alloc (.cells #[tx l, .bool false] 66 (0, 0))).alloc (.cells txz 25 (0, 0))) ⟨l, false⟩ txz (.slice none 0 0) [] := by
  have e1 : (w.alloc (.cells txz 25 (0, 0))).heap.size = w.heap.size + 1 := World.size_alloc ..
  have e2 : ((w.alloc (.cells txz 25 (0, 0))).alloc (.cells #[tx l, .bool false] 66 (0, 0))).heap.size = w.heap.size + 2 := by rw [World.size_alloc, e1]
  refine ⟨?_, ?_, ?_, World.ownsRow_nil _ _ _ _, (((Same.refl _ w).alloc _).alloc _).alloc _⟩
  · show _[w.heap.size + 1]? = _
    rw [heap_old _ _ (by omega), ← e1]
    exact heap_new _ _
  · rw [heap_old _ _ (by omega), heap_old _ _ (by omega)]
    exact heap_new _ _
  · rw [← e2]
    exact heap_new _ _
theorem Tb.size {w W : World} {s : Rs} {arr : Array Value} {v : Value} {acc : List OpM} (h : Tb w W s arr v acc) : w.heap.size + 3 ≤ W.heap.size := lt_of_heap h.bt
/-- The reader has moved. -/
theorem Tb.on {w W W' : World} {s s' : Rs} {arr : Array Value} {v : Value} {acc : List OpM} (h : Tb w W s arr v acc) (hr : RdAt W' (w.heap.size + 1) s') (m : Mv (w.heap.size + 1) W W') : Tb w W' s' arr v acc :=
  ⟨hr, m.box h.bq (by omega), m.box h.bt (by omega), h.own.kept m (fun k hk e => by have := (h.own.blk hk).1; omega), Same.trans h.kp m (fun i hi e => by omega)⟩
theorem Tb.kept {w W W' : World} {s : Rs} {arr : Array Value} {v : Value} {acc : List OpM} (h : Tb w W s arr v acc) (m : Kept W W') : Tb w W' s arr v acc :=
  h.on (h.rd.kept m) (m.to _)
/-- A cell of the transaction is written. -/
theorem Tb.set {w W : World} {s : Rs} {arr : Array Value} {v : Value} {acc : List OpM} (h : Tb w W s arr v acc) (i : Nat) (x : Value) : Tb w (W.setCell ⟨w.heap.size + 2, i, none⟩ x) s (arr.setIfInBounds i x) v acc :=
  have k : Same (fun j => j = w.heap.size + 2) W (W.setCell ⟨w.heap.size + 2, i, none⟩ x) := (Same.refl (fun j => j = w.heap.size + 2) W).setCell _ (.inr rfl) _
  ⟨h.rd.off k (by omega), (k.block _ (lt_of_heap h.bq) (by omega)).trans h.bq, setCell_at h.bt i x, h.own.kept k (fun j hj e => by have := (h.own.blk hj).1; omega), Same.trans h.kp k (fun i hi e => by omega)⟩
theorem Tb.facts {w W : World} {s : Rs} {arr : Array Value} {v : Value} {acc : List OpM} (h : Tb w W s arr v acc) : w.heap.size + 2 < W.heap.size ∧ (∀ i, W.cell? ⟨w.heap.size + 2, i, none⟩ = arr[i]?) ∧ ∀ i, W.frozen? ⟨w.heap.size + 2, i, none⟩ = false := ⟨lt_of_heap h.bt, fun i => cell_of h.bt i, fun i => frozen_of h.bt i⟩

def nv (p : List UInt8) (s : Rs) : Nat := (numO (mst p s)).getD 0
def nt (p : List UInt8) (s : Rs) : Rs := numS (mst p s)
/-- The states behind the six numbers, the blank and the status. -/
def z1 (l : List UInt8) : Rs := nt [115] ⟨l, false⟩
def z2 (l : List UInt8) : Rs := nt [32, 113] (z1 l)
def z3 (l : List UInt8) : Rs := nt [32, 116] (z2 l)
def z4 (l : List UInt8) : Rs := nt [45] (z3 l)
def z5 (l : List UInt8) : Rs := nt [32, 99] (z4 l)
def z6 (l : List UInt8) : Rs := nt [45] (z5 l)
def z7 (l : List UInt8) : Rs := mst [32] (z6 l)
def z8 (l : List UInt8) : Rs := stsS (z7 l)
def headT (l : List UInt8) (ops : List OpM) : TxM := ⟨nv [115] ⟨l, false⟩, nv [32, 113] (z1 l), nv [32, 116] (z2 l), nv [45] (z3 l), nv [32, 99] (z4 l), nv [45] (z5 l), stsV (z7 l), ops⟩
def opsR : Nat → List OpM → Rs → List OpM × Rs
  | 0, acc, s => (acc, s)
  | n + 1, acc, s => if s.l = [] ∨ s.f = true then (acc, s) else opsR n (if acc.length ≤ 16 then acc ++ [(opR s).1] else acc) (opR s).2
def rk (s : Rs) : Nat := if s.f = true then 0 else s.l.length + 1
/-- The transaction that a line writes, and whether it is of the form. -/
def readT (l : List UInt8) : TxM × Bool := (headT l (opsR (l.length + 2) [] (z8 l)).1, !(opsR (l.length + 2) [] (z8 l)).2.f)
theorem cut_len (p : List UInt8) (s : Rs) : (cutp p s).l.length ≤ s.l.length := trim_le _ _
theorem mst_len (p : List UInt8) (s : Rs) : (mst p s).l.length ≤ s.l.length := trim_le _ _
theorem wrd_len (s : Rs) : (wrdS s).l.length ≤ s.l.length := by show (s.l.drop _).length ≤ _; rw [List.length_drop]; omega
theorem mst_f (p : List UInt8) (s : Rs) (h : s.f = true) : (mst p s).f = true := by unfold mst; rw [h]; rfl
theorem wrd_f (s : Rs) (h : s.f = true) : (wrdS s).f = true := by unfold wrdS bad drp; simp [h]
theorem op_len (s : Rs) : (opR s).2.l.length ≤ (mst [32] s).l.length ∧ ((mst [32] s).f = true → (opR s).2.f = true) := by
  unfold opR
  dsimp only
  generalize mst [32] s = s1
  have c1 := cut_len [114, 40] s1
  split
  · have c2 := wrd_len (cutp [114, 40] s1)
    have c3 := mst_len [41, 61] (wrdS (cutp [114, 40] s1))
    have c4 := cut_len [45] (mst [41, 61] (wrdS (cutp [114, 40] s1)))
    split
    · exact ⟨by dsimp only; omega, fun h => mst_f _ _ (wrd_f _ h)⟩
    · have c5 := wrd_len (cutp [45] (mst [41, 61] (wrdS (cutp [114, 40] s1))))
      exact ⟨by dsimp only; omega, fun h => wrd_f _ (mst_f _ _ (wrd_f _ h))⟩
  · have c2 := cut_len [119, 40] (cutp [114, 40] s1)
    split
    · have c3 := wrd_len (cutp [119, 40] (cutp [114, 40] s1))
      have c4 := mst_len [41, 61] (wrdS (cutp [119, 40] (cutp [114, 40] s1)))
      have c5 := wrd_len (mst [41, 61] (wrdS (cutp [119, 40] (cutp [114, 40] s1))))
      exact ⟨by dsimp only; omega, fun h => wrd_f _ (mst_f _ _ (wrd_f _ h))⟩
    · have c3 := mst_len [100, 40] (cutp [119, 40] (cutp [114, 40] s1))
      have c4 := wrd_len (mst [100, 40] (cutp [119, 40] (cutp [114, 40] s1)))
      have c5 := mst_len [41] (wrdS (mst [100, 40] (cutp [119, 40] (cutp [114, 40] s1))))
      exact ⟨by dsimp only; omega, fun h => mst_f _ _ (wrd_f _ (mst_f _ _ h))⟩
theorem op_rk {s : Rs} (h : s.f = false) : rk (opR s).2 < rk s := by
  obtain ⟨h1, h2⟩ := op_len s
  unfold rk
  rw [h]
  simp only [Bool.false_eq_true, if_false]
  by_cases hp : Lib.hasPrefix s.l [32] = true
  · have : (mst [32] s).l.length + 1 ≤ s.l.length := by
      unfold mst Lib.trimPrefix
      dsimp only
      rw [if_pos hp, List.length_drop]
      unfold Lib.hasPrefix at hp
      have := (List.isPrefixOf_iff_prefix.1 hp).length_le
      simp at this ⊢
      omega
    split <;> omega
  · have : (mst [32] s).f = true := by unfold mst; simp [hp]
    rw [if_pos (h2 this)]
    omega
theorem nt_ok {s : Rs} (h : s.ok) (p : List UInt8) : (nt p s).ok := (h.mst p).num
theorem z8_ok {l : List UInt8} (h : l.length ≤ 140737488355328) : (z8 l).ok := by
  have h0 : (⟨l, false⟩ : Rs).ok := h
  exact ((nt_ok (nt_ok (nt_ok (nt_ok (nt_ok (nt_ok h0 _) _) _) _) _) _).mst _).sts
theorem nt_len (p : List UInt8) (s : Rs) : (nt p s).l.length ≤ s.l.length := Nat.le_trans (by show ((mst p s).l.drop _).length ≤ _; rw [List.length_drop]; omega) (mst_len p s)
theorem z8_len (l : List UInt8) : (z8 l).l.length ≤ l.length := by
  have h1 := nt_len [115] ⟨l, false⟩
  have h2 := nt_len [32, 113] (z1 l)
  have h3 := nt_len [32, 116] (z2 l)
  have h4 := nt_len [45] (z3 l)
  have h5 := nt_len [32, 99] (z4 l)
  have h6 := nt_len [45] (z5 l)
  have h7 := mst_len [32] (z6 l)
  have h8 : (z8 l).l.length ≤ (z7 l).l.length := by
    unfold z8 stsS
    split
    · exact cut_len _ _
    · exact Nat.le_trans (mst_len _ _) (cut_len _ _)
  unfold z7 z6 z5 z4 z3 z2 z1 at *
  simp only at *
  omega
end Go.Proofs.YtlldgibpajbabaaDoor

namespace Go.Proofs.YtlldgibpajbabaaDoor
open Go.RowKit

/-- What is left to read, as a number. -/
def rkAt (w : World) (rb : Nat) : Nat := match w.cell? ⟨rb, 0, none⟩, w.cell? ⟨rb, 1, none⟩ with
  | some (.string s), some (.bool f) => if f = true then 0 else s.size + 1
  | _, _ => 0
theorem rkAt_of {w : World} {rb : Nat} {s : Rs} (h : RdAt w rb s) : rkAt w rb = rk s := by
  obtain ⟨_, h1, h2, _⟩ := h.facts
  unfold rkAt rk
  rw [h1, h2]
  simp only [sz]
/-- One operation more: the row's cell stored. -/
theorem Tb.grow {w W W' : World} {s : Rs} {arr : Array Value} {v v' : Value} {acc acc' : List OpM} (h : Tb w W s arr v acc) (o : OwnO (w.heap.size + 3) W' v' acc') (k : Same (fun j => v.ownBlock = some j) W W') : Tb w W' s arr v' acc' :=
  have ne : ∀ j, j < w.heap.size + 3 → ¬ v.ownBlock = some j := fun j hj e => by have := (h.own.blk e).1; omega
  ⟨(k.block _ (lt_of_heap h.rd) (ne _ (by omega))).trans h.rd, (k.block _ (lt_of_heap h.bq) (ne _ (by omega))).trans h.bq, (k.block _ (lt_of_heap h.bt) (ne _ (by omega))).trans h.bt, o, Same.trans h.kp k (fun i hi e => (ne i (by omega) e).elim)⟩

theorem results_ct {fn : Func} {a b t : Nat} {P : Program} {w : World} {tmps : Array Value} {ad : Addr} {v : Value} (h : fn.results = #[.cell a t, .tmp b]) (ha : tmps.getD a undef = .pointer (some ad)) (hv : (loadVar t ad).run P w = .ok v w) : (results fn tmps).run P w = .ok (.tuple #[v, tmps.getD b undef]) w := by
  have ha' : tmps[a]?.getD undef = .pointer (some ad) := by simpa using ha
  simp [results, h, ha', asAddr, hv]
theorem drew_heap (X : World) (b : Nat) : X.drew.heap[b]? = X.heap[b]? := rfl
theorem Tb.out {w W X : World} {s : Rs} {n0 n1 n2 n3 n4 n5 st : Int} {a : Option Addr} {c n : Nat} {acc : List OpM} {arr : Array Value} (h : Tb w W s arr (.slice a n c) acc) (k0 : Same (fun j => j = w.heap.size) W X) (hx : X.heap[w.heap.size]? = some (.cells #[.int .i64 n0, .int .i64 n1, .int .i64 n2, .int .i64 n3, .int .i64 n4, .int .i64 n5, .int .i64 st, .slice a n c] 25 (0, 0))) :
    (loadVar 25 ⟨w.heap.size, 0, none⟩).run Tryd.prog X.drew = .ok (.agg #[.int .i64 n0, .int .i64 n1, .int .i64 n2, .int .i64 n3, .int .i64 n4, .int .i64 n5, .int .i64 st, .slice a n c]) X.drew ∧
    OwnO w.heap.size X.drew (.slice a n c) acc ∧ Kept w X.drew := by
  have k := Same.drew k0
  have o := h.own.kept k (fun j hj e => by have := (h.own.blk hj).1; omega)
  refine ⟨loadVar_tx ((drew_heap X _).trans hx), ?_, Same.trans h.kp k (fun i hi e => by omega)⟩
  rcases o.2 with ⟨e, hn⟩ | ⟨g, cap, cur, e, hb, r⟩
  · exact ⟨o.1, .inl ⟨e, hn⟩⟩
  · exact ⟨o.1, .inr ⟨g, cap, cur, e, by omega, r⟩⟩
/-- The transaction handed back in the result's box. -/
theorem Tb.done {w W : World} {s : Rs} {n0 n1 n2 n3 n4 n5 st : Int} {a : Option Addr} {c n : Nat} {acc : List OpM} {arr : Array Value} (h : Tb w W s arr (.slice a n c) acc) :
    (loadVar 25 ⟨w.heap.size, 0, none⟩).run Tryd.prog (put8 W w.heap.size (.int .i64 n0) (.int .i64 n1) (.int .i64 n2) (.int .i64 n3) (.int .i64 n4) (.int .i64 n5) (.int .i64 st) (.slice a n c)).drew = .ok (.agg #[.int .i64 n0, .int .i64 n1, .int .i64 n2, .int .i64 n3, .int .i64 n4, .int .i64 n5, .int .i64 st, .slice a n c]) (put8 W w.heap.size (.int .i64 n0) (.int .i64 n1) (.int .i64 n2) (.int .i64 n3) (.int .i64 n4) (.int .i64 n5) (.int .i64 st) (.slice a n c)).drew ∧
    OwnO w.heap.size (put8 W w.heap.size (.int .i64 n0) (.int .i64 n1) (.int .i64 n2) (.int .i64 n3) (.int .i64 n4) (.int .i64 n5) (.int .i64 st) (.slice a n c)).drew (.slice a n c) acc ∧ Kept w (put8 W w.heap.size (.int .i64 n0) (.int .i64 n1) (.int .i64 n2) (.int .i64 n3) (.int .i64 n4) (.int .i64 n5) (.int .i64 st) (.slice a n c)).drew := h.out (put8_same ..) (put8_at h.bq ..)

set_option maxRecDepth 100000 in
set_option maxHeartbeats 3200000 in
theorem readTxn_any (l : List UInt8) (w : World) (hl : l.length ≤ 140737488355328) : Calls Tryd.prog 18 #[tx l] w fun e w' => ∃ a c, e = .returned (.tuple #[txV (readT l).1 (.slice a (readT l).1.ops.length c), .bool (readT l).2]) ∧ OwnO w.heap.size w' (.slice a (readT l).1.ops.length c) (readT l).1.ops ∧ Kept w w' := by
  obtain ⟨rb, erb⟩ : ∃ rb, rb = w.heap.size + 1 := ⟨_, rfl⟩
  have HM : Hid (∀ W s p, RdAt W (w.heap.size + 1) s → Calls Tryd.prog 30 #[rdp (w.heap.size + 1), tx p] W _) := fun W s p h => must_any h p
  have HN : Hid (∀ W s p, RdAt W (w.heap.size + 1) s → s.ok → Calls Tryd.prog 29 #[rdp (w.heap.size + 1), tx p] W fun e w' => e = .returned (.int .i64 ((nv p s : Nat) : Int)) ∧ RdAt w' (w.heap.size + 1) (nt p s) ∧ Mv (w.heap.size + 1) W w') := fun W s p h hs => number_any' h hs p
  have HST : Hid (∀ W s, RdAt W (w.heap.size + 1) s → Calls Tryd.prog 31 #[rdp (w.heap.size + 1)] W _) := fun W s h => status_any h
  have HO : Hid (∀ W s, RdAt W (w.heap.size + 1) s → s.ok → Calls Tryd.prog 32 #[rdp (w.heap.size + 1)] W _) := fun W s h => op_rd h
  have T0 : Hid (Tb w _ ⟨l, false⟩ txz (.slice none 0 0) []) := Tb.start w l
  have ok0 : Hid ((⟨l, false⟩ : Rs).ok) := hl
  have EZ : Hid (z8 l = stsS (mst [32] (nt [45] (nt [32, 99] (nt [45] (nt [32, 116] (nt [32, 113] (nt [115] ⟨l, false⟩)))))))) := rfl
  have ER : Hid (readT l = (headT l (opsR (l.length + 2) [] (z8 l)).1, !(opsR (l.length + 2) [] (z8 l)).2.f)) := rfl
  have EH : Hid (∀ ops, headT l ops = ⟨nv [115] ⟨l, false⟩, nv [32, 113] (nt [115] ⟨l, false⟩), nv [32, 116] (nt [32, 113] (nt [115] ⟨l, false⟩)), nv [45] (nt [32, 116] (nt [32, 113] (nt [115] ⟨l, false⟩))), nv [32, 99] (nt [45] (nt [32, 116] (nt [32, 113] (nt [115] ⟨l, false⟩)))), nv [45] (nt [32, 99] (nt [45] (nt [32, 116] (nt [32, 113] (nt [115] ⟨l, false⟩))))), stsV (mst [32] (nt [45] (nt [32, 99] (nt [45] (nt [32, 116] (nt [32, 113] (nt [115] ⟨l, false⟩))))))), ops⟩) := fun ops => rfl
  have HZ : Hid (rk (z8 l) ≤ l.length + 2 ∧ (z8 l).ok) := ⟨by have := z8_len l; unfold rk; split <;> omega, z8_ok hl⟩
  clear erb rb
  generalize readT l = RT at *
  unfold txz at T0
  go_enter Tryd.func18, Tryd.ntmps18
  go_wp2_with fail
  refine Calls.mono (HN.out _ _ [115] T0.out.rd ok0.out) ?_
  rintro e W0 ⟨rfl, r0, m0⟩
  have t0 := T0.out.on r0 m0
  have T1 : Hid _ := t0.set 0 (.int .i64 ((nv [115] ⟨l, false⟩ : Nat) : Int))
  have ok1 : Hid _ := nt_ok ok0.out [115]
  obtain ⟨y0, y1, y2⟩ := t0.facts
  have y3 := y2 0
  have y4 := y1 0
  clear r0 m0 t0 T0 ok0 y1 y2
  generalize nt [115] ⟨l, false⟩ = a1 at *
  generalize nv [115] ⟨l, false⟩ = n0 at *
  simp at y4
  go_wp2_with fail
  clear y0 y3 y4
  refine Calls.mono (HN.out _ _ [32, 113] T1.out.rd ok1.out) ?_
  rintro e W1 ⟨rfl, r1, m1⟩
  have t1 := T1.out.on r1 m1
  have T2 : Hid _ := t1.set 1 (.int .i64 ((nv [32, 113] a1 : Nat) : Int))
  have ok2 : Hid _ := nt_ok ok1.out [32, 113]
  obtain ⟨y0, y1, y2⟩ := t1.facts
  have y3 := y2 1
  have y4 := y1 1
  clear r1 m1 t1 T1 ok1 y1 y2
  generalize nt [32, 113] a1 = a2 at *
  generalize nv [32, 113] a1 = n1 at *
  simp at y4
  go_wp2_with fail
  clear y0 y3 y4
  refine Calls.mono (HN.out _ _ [32, 116] T2.out.rd ok2.out) ?_
  rintro e W2 ⟨rfl, r2, m2⟩
  have t2 := T2.out.on r2 m2
  have T3 : Hid _ := t2.set 2 (.int .i64 ((nv [32, 116] a2 : Nat) : Int))
  have ok3 : Hid _ := nt_ok ok2.out [32, 116]
  obtain ⟨y0, y1, y2⟩ := t2.facts
  have y3 := y2 2
  have y4 := y1 2
  clear r2 m2 t2 T2 ok2 y1 y2
  generalize nt [32, 116] a2 = a3 at *
  generalize nv [32, 116] a2 = n2 at *
  simp at y4
  go_wp2_with fail
  clear y0 y3 y4
  refine Calls.mono (HN.out _ _ [45] T3.out.rd ok3.out) ?_
  rintro e W3 ⟨rfl, r3, m3⟩
  have t3 := T3.out.on r3 m3
  have T4 : Hid _ := t3.set 3 (.int .i64 ((nv [45] a3 : Nat) : Int))
  have ok4 : Hid _ := nt_ok ok3.out [45]
  obtain ⟨y0, y1, y2⟩ := t3.facts
  have y3 := y2 3
  have y4 := y1 3
  clear r3 m3 t3 T3 ok3 y1 y2
  generalize nt [45] a3 = a4 at *
  generalize nv [45] a3 = n3 at *
  simp at y4
  go_wp2_with fail
  clear y0 y3 y4
  refine Calls.mono (HN.out _ _ [32, 99] T4.out.rd ok4.out) ?_
  rintro e W4 ⟨rfl, r4, m4⟩
  have t4 := T4.out.on r4 m4
  have T5 : Hid _ := t4.set 4 (.int .i64 ((nv [32, 99] a4 : Nat) : Int))
  have ok5 : Hid _ := nt_ok ok4.out [32, 99]
  obtain ⟨y0, y1, y2⟩ := t4.facts
  have y3 := y2 4
  have y4 := y1 4
  clear r4 m4 t4 T4 ok4 y1 y2
  generalize nt [32, 99] a4 = a5 at *
  generalize nv [32, 99] a4 = n4 at *
  simp at y4
  go_wp2_with fail
  clear y0 y3 y4
  refine Calls.mono (HN.out _ _ [45] T5.out.rd ok5.out) ?_
  rintro e W5 ⟨rfl, r5, m5⟩
  have t5 := T5.out.on r5 m5
  have T6 : Hid _ := t5.set 5 (.int .i64 ((nv [45] a5 : Nat) : Int))
  have ok6 : Hid _ := nt_ok ok5.out [45]
  obtain ⟨y0, y1, y2⟩ := t5.facts
  have y3 := y2 5
  have y4 := y1 5
  clear r5 m5 t5 T5 ok5 y1 y2
  generalize nt [45] a5 = a6 at *
  generalize nv [45] a5 = n5 at *
  simp at y4
  go_wp2_with fail
  clear y0 y3 y4
  refine Calls.mono (HM.out _ _ [32] T6.out.rd) ?_
  rintro e W6 ⟨rfl, r6, m6⟩
  have T7 : Hid _ := T6.out.on r6 m6
  clear r6 m6 T6
  generalize mst [32] a6 = a7 at *
  go_wp2_with fail
  refine Calls.mono (HST.out _ _ T7.out.rd) ?_
  rintro e W7 ⟨rfl, r7, m7⟩
  have t7 := T7.out.on r7 m7
  have T8 : Hid _ := t7.set 6 (.int .i64 (stsV a7))
  obtain ⟨y0, y1, y2⟩ := t7.facts
  have y3 := y2 6
  have y4 := y1 6
  clear r7 m7 t7 T7 y1 y2
  generalize stsS a7 = a8 at *
  generalize stsV a7 = st at *
  simp at y4
  go_wp2_with fail
  clear y0 y3 y4
  obtain ⟨W8, eW8⟩ : ∃ W8, W8 = W7.setCell ⟨w.heap.size + 2, 6, none⟩ (.int .i64 st) := ⟨_, rfl⟩
  have TT : Hid (Tb w W8 a8 #[.int .i64 n0, .int .i64 n1, .int .i64 n2, .int .i64 n3, .int .i64 n4, .int .i64 n5, .int .i64 st, .slice none 0 0] (.slice none 0 0) []) := by
    have := T8.out
    rw [← eW8] at this
    simp at this
    exact this
  rw [← eW8]
  clear eW8 T8 ok6 HN HM HST
  rw [EZ.out] at HZ ER
  clear EZ
  go_loopw [33] (fun _ wr => ∃ (n : Nat) (acc : List OpM) (s : Rs) (a : Option Addr) (c : Nat), Tb w wr s #[.int .i64 n0, .int .i64 n1, .int .i64 n2, .int .i64 n3, .int .i64 n4, .int .i64 n5, .int .i64 st, .slice a acc.length c] (.slice a acc.length c) acc ∧ opsR n acc s = opsR (l.length + 2) [] a8 ∧ rk s ≤ n ∧ s.ok ∧ acc.length ≤ 17) (fun _ wr => rkAt wr (w.heap.size + 1))
  case atStart => exact ⟨_, [], a8, none, 0, TT.out, rfl, HZ.out.1, HZ.out.2, Nat.zero_le _⟩
  case round =>
    obtain ⟨n, acc, s, a, c, ht, ho, hrk, hok, hac⟩ := hrel
    rename World => V
    have HT : Hid _ := ht
    have HOP : Hid _ := ho
    have HOK : Hid (s.ok ∧ rk s ≤ n) := ⟨hok, hrk⟩
    obtain ⟨h0, h1, h2, h3, h4⟩ := ht.rd.facts
    have hem : (⟨s.l.toArray⟩ : ByteArray).toList.isEmpty = s.l.isEmpty := by rw [ByteArray.toList_eq]
    clear ht ho hok hrk TT
    by_cases hend : s.l = [] ∨ s.f = true
    · have HE : Hid (opsR (l.length + 2) [] a8 = (acc, s)) := by
        show _ = _
        rw [← HOP.out]
        cases n with
        | zero => rfl
        | succ n => unfold opsR; rw [if_pos hend]
      have HG : Hid (s.l.isEmpty = true ∨ (s.l.isEmpty = false ∧ s.f = true)) := by
        cases hL : s.l with
        | nil => exact .inl rfl
        | cons x y => exact .inr ⟨rfl, hend.resolve_left (by rw [hL]; simp)⟩
      clear hend HOP HOK HO
      rcases HG.out with g1 | ⟨g1, g2⟩
      · clear HG
        go_upto_region 15 with fail
        obtain ⟨⟨c0, c1, c2, c3, c4, c5, c6, c7⟩, -⟩ := tx_obj HT.out.bt
        obtain ⟨⟨q0, q1, q2, q3, q4, q5, q6, q7⟩, v0, v1, v2, v3, v4, v5, v6, v7⟩ := tx_obj HT.out.bq
        have lq := lt_of_heap HT.out.bq
        have lt2 := lt_of_heap HT.out.bt
        have DN : Hid _ := HT.out.done (n0 := n0) (n1 := n1) (n2 := n2) (n3 := n3) (n4 := n4) (n5 := n5) (st := st)
        go_region_held3 (fun w' => w'.cell? ⟨w.heap.size + 1, 1, none⟩ = some (.bool s.f) ∧ w'.cell? ⟨w.heap.size + 1 + 1, 0, none⟩ = some (.int .i64 (n0 : Int)) ∧ w'.cell? ⟨w.heap.size + 1 + 1, 1, none⟩ = some (.int .i64 (n1 : Int)) ∧ w'.cell? ⟨w.heap.size + 1 + 1, 2, none⟩ = some (.int .i64 (n2 : Int)) ∧ w'.cell? ⟨w.heap.size + 1 + 1, 3, none⟩ = some (.int .i64 (n3 : Int)) ∧ w'.cell? ⟨w.heap.size + 1 + 1, 4, none⟩ = some (.int .i64 (n4 : Int)) ∧ w'.cell? ⟨w.heap.size + 1 + 1, 5, none⟩ = some (.int .i64 (n5 : Int)) ∧ w'.cell? ⟨w.heap.size + 1 + 1, 6, none⟩ = some (.int .i64 st) ∧ w'.cell? ⟨w.heap.size + 1 + 1, 7, none⟩ = some (.slice a acc.length c)) (refine ⟨?_, ?_, ?_, ?_, ?_, ?_, ?_, ?_, ?_⟩ <;> go_simp) (fail)
        clear c0 c1 c2 c3 c4 c5 c6 c7 q0 q1 q2 q3 q4 q5 q6 q7 v0 v1 v2 v3 v4 v5 v6 v7 lq lt2 h0 h1 h2 h3 h4 hem
        go_wp2_with fail
        refine bodyPost_ret (results_ct (a := 2) (b := 3) (t := 25) rfl rfl DN.out.1) rfl ?_
        have e1 := ER.out
        rw [HE.out, EH.out] at e1
        subst e1
        exact ⟨a, c, rfl, DN.out.2⟩
      · clear HG
        rw [g2] at h2
        go_upto_region 15 with fail
        obtain ⟨⟨c0, c1, c2, c3, c4, c5, c6, c7⟩, -⟩ := tx_obj HT.out.bt
        obtain ⟨⟨q0, q1, q2, q3, q4, q5, q6, q7⟩, v0, v1, v2, v3, v4, v5, v6, v7⟩ := tx_obj HT.out.bq
        have lq := lt_of_heap HT.out.bq
        have lt2 := lt_of_heap HT.out.bt
        have DN : Hid _ := HT.out.done (n0 := n0) (n1 := n1) (n2 := n2) (n3 := n3) (n4 := n4) (n5 := n5) (st := st)
        go_region_held3 (fun w' => w'.cell? ⟨w.heap.size + 1, 1, none⟩ = some (.bool true) ∧ w'.cell? ⟨w.heap.size + 1 + 1, 0, none⟩ = some (.int .i64 (n0 : Int)) ∧ w'.cell? ⟨w.heap.size + 1 + 1, 1, none⟩ = some (.int .i64 (n1 : Int)) ∧ w'.cell? ⟨w.heap.size + 1 + 1, 2, none⟩ = some (.int .i64 (n2 : Int)) ∧ w'.cell? ⟨w.heap.size + 1 + 1, 3, none⟩ = some (.int .i64 (n3 : Int)) ∧ w'.cell? ⟨w.heap.size + 1 + 1, 4, none⟩ = some (.int .i64 (n4 : Int)) ∧ w'.cell? ⟨w.heap.size + 1 + 1, 5, none⟩ = some (.int .i64 (n5 : Int)) ∧ w'.cell? ⟨w.heap.size + 1 + 1, 6, none⟩ = some (.int .i64 st) ∧ w'.cell? ⟨w.heap.size + 1 + 1, 7, none⟩ = some (.slice a acc.length c)) (refine ⟨?_, ?_, ?_, ?_, ?_, ?_, ?_, ?_, ?_⟩ <;> go_simp) (fail)
        clear c0 c1 c2 c3 c4 c5 c6 c7 q0 q1 q2 q3 q4 q5 q6 q7 v0 v1 v2 v3 v4 v5 v6 v7 lq lt2 h0 h1 h2 h3 h4 hem
        go_wp2_with fail
        refine bodyPost_ret (results_ct (a := 2) (b := 3) (t := 25) rfl rfl DN.out.1) rfl ?_
        have e1 := ER.out
        rw [HE.out, EH.out] at e1
        dsimp only at e1
        rw [g2] at e1
        subst e1
        exact ⟨a, c, rfl, DN.out.2⟩
    · have hne : s.l.isEmpty = false := by
        cases hL : s.l with
        | nil => exact absurd (.inl hL) hend
        | cons x y => rfl
      have hf : s.f = false := by
        cases hF : s.f
        · rfl
        · exact absurd (.inr hF) hend
      have HS : Hid (rk (opR s).2 < rk s) := op_rk hf
      have HNX : Hid (∃ n', n = n' + 1 ∧ opsR n' (if acc.length ≤ 16 then acc ++ [(opR s).1] else acc) (opR s).2 = opsR (l.length + 2) [] a8) := by
        have h9 := HOK.out.2
        have h8 := HS.out
        cases n with
        | zero => omega
        | succ n' =>
          refine ⟨n', rfl, ?_⟩
          rw [← HOP.out]
          conv => rhs; unfold opsR
          rw [if_neg hend]
      have HRK : Hid (rkAt V (w.heap.size + 1) = rk s) := rkAt_of HT.out.rd
      rw [hf] at h2
      clear hend hf
      go_wp2_with fail
      refine Calls.mono (HO.out _ _ HT.out.rd HOK.out.1) ?_
      rintro e V1 ⟨rfl, r1, m1⟩
      have T1 : Hid _ := (HT.out.on r1 m1).kept ((Same.refl _ V1).alloc (opO (.int .i64 (opR s).1.kind) (.string (opR s).1.key) (.bool (opR s).1.found) (.string (opR s).1.value)))
      have OB : Hid _ := heap_new V1 (opO (.int .i64 (opR s).1.kind) (.string (opR s).1.key) (.bool (opR s).1.found) (.string (opR s).1.value))
      have ok1 := HOK.out.1.op
      generalize (opR s).2 = s' at *
      generalize (opR s).1 = o at *
      clear h0 h1 h2 h3 h4 r1 m1 HT
      unfold opO at T1 OB
      simp only [opV]
      obtain ⟨y0, y1, y2⟩ := T1.out.facts
      have y7 := y1 7
      have f7 := y2 7
      simp only [List.getElem?_toArray, List.getElem?_cons_succ, List.getElem?_cons_zero] at y7
      obtain ⟨⟨d0, d1, d2, d3⟩, f0, f1, f2, f3⟩ := op_obj OB.out
      by_cases h16 : acc.length ≤ 16
      · have q16 : (acc.length : Int) ≤ 16 := by omega
        have HAP : Hid (∀ g, g = (V1.alloc (.cells #[.int .i64 o.kind, .string o.key, .bool o.found, .string o.value] 49 (0, 0))).heap.size → ∀ ty, ∃ v' w', (Builtin.append_ #[23, 23] ty #[.slice a acc.length c, .slice (some ⟨g, 0, none⟩) 1 1]).run Tryd.prog ((V1.alloc (.cells #[.int .i64 o.kind, .string o.key, .bool o.found, .string o.value] 49 (0, 0))).alloc (.cells #[.int .i64 o.kind, .string o.key, .bool o.found, .string o.value] 49)) = .ok v' w' ∧ ∃ a' c', v' = .slice a' (acc ++ [o]).length c' ∧ Tb w w' s' #[.int .i64 n0, .int .i64 n1, .int .i64 n2, .int .i64 n3, .int .i64 n4, .int .i64 n5, .int .i64 st, .slice a acc.length c] v' (acc ++ [o])) := fun g hg ty => by
          obtain ⟨v', w', hr, ho1, hs1, -⟩ := app_op_one o T1.out.own (by omega) T1.out.size ty
          rw [hg]
          obtain ⟨a', c', e', -⟩ := OwnO.ops ho1
          exact ⟨v', w', hr, a', c', e', T1.out.grow ho1 hs1⟩
        have EX : Hid ((if acc.length ≤ 16 then acc ++ [o] else acc) = acc ++ [o]) := if_pos h16
        clear y1 y2
        go_wp2_with (at_builtin; refine wpList_app rfl (.tmp 52) (.tmp 54) 23 23 rfl (.slice a acc.length c) (.slice (some ⟨_, 0, none⟩) 1 1) rfl rfl _ (HAP.out _ (by first | rfl | simp)) ?_; rintro v5 w5 ⟨a5, c5, rfl, t5⟩; obtain ⟨x0, x1, x2⟩ := t5.facts; have x7 := x1 7; have g7 := x2 7; have T5 : Hid _ := t5.set 7 (.slice a5 (acc ++ [o]).length c5); clear x1 x2 t5)
        have T6 : Hid (Tb w (w5.setCell ⟨w.heap.size + 1 + 1, 7, none⟩ (.slice a5 (acc.length + 1) c5)) s' #[.int .i64 n0, .int .i64 n1, .int .i64 n2, .int .i64 n3, .int .i64 n4, .int .i64 n5, .int .i64 st, .slice a5 (acc ++ [o]).length c5] (.slice a5 (acc ++ [o]).length c5) (acc ++ [o])) := by
          have h9 := T5.out
          have e9 : (acc ++ [o]).length = acc.length + 1 := by simp
          rw [e9] at h9 ⊢
          exact h9
        refine ⟨?_, ?_⟩
        · obtain ⟨n', e1, e2⟩ := HNX.out
          rw [EX.out] at e2
          exact ⟨n', acc ++ [o], s', a5, c5, T6.out, e2, by have h8 := HS.out; have h9 := HOK.out.2; omega, ok1, by simp; omega⟩
        · rw [HRK.out, rkAt_of T6.out.rd]
          exact HS.out
      · have q16 : ¬ (acc.length : Int) ≤ 16 := by omega
        have EX : Hid ((if acc.length ≤ 16 then acc ++ [o] else acc) = acc) := if_neg h16
        clear y1 y2
        go_wp2_with fail
        go_roundw
        case rel =>
          obtain ⟨n', e1, e2⟩ := HNX.out
          rw [EX.out] at e2
          exact ⟨n', acc, s', a, c, T1.out, e2, by have h8 := HS.out; have h9 := HOK.out.2; omega, ok1, hac⟩
        case measure =>
          rw [HRK.out, rkAt_of T1.out.rd]
          exact HS.out
end Go.Proofs.YtlldgibpajbabaaDoor
