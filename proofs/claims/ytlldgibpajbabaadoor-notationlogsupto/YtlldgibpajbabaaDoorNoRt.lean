/- the document's heads, and what the loops of its Read keep; condition: the number of operations -/
import Derived.Test.YtlldgibpajbabaaDoorNoRq
namespace Go.Proofs.YtlldgibpajbabaaDoor
open Go.RowKit

theorem results_cc {fn : Func} {a b t u : Nat} {P : Program} {w : World} {tmps : Array Value} {ad bd : Addr} {v x : Value} (h : fn.results = #[.cell a t, .cell b u]) (ha : tmps.getD a undef = .pointer (some ad)) (hb : tmps.getD b undef = .pointer (some bd)) (hv : (loadVar t ad).run P w = .ok v w) (hx : (loadVar u bd).run P w = .ok x w) : (results fn tmps).run P w = .ok (.tuple #[v, x]) w := by
  have ha' : tmps[a]?.getD undef = .pointer (some ad) := by simpa using ha
  have hb' : tmps[b]?.getD undef = .pointer (some bd) := by simpa using hb
  simp [results, h, ha', hb', asAddr, hv, hx]
/-- A box of six cells. -/
theorem six_obj {w : World} {b : Nat} {T : TypeId} {v0 v1 v2 v3 v4 v5 : Value} (h : w.heap[b]? = some (.cells #[v0, v1, v2, v3, v4, v5] T (0, 0))) :
    (w.cell? ⟨b, 0, none⟩ = some v0 ∧ w.cell? ⟨b, 1, none⟩ = some v1 ∧ w.cell? ⟨b, 2, none⟩ = some v2 ∧ w.cell? ⟨b, 3, none⟩ = some v3 ∧ w.cell? ⟨b, 4, none⟩ = some v4 ∧ w.cell? ⟨b, 5, none⟩ = some v5) ∧
    w.frozen? ⟨b, 0, none⟩ = false ∧ w.frozen? ⟨b, 1, none⟩ = false ∧ w.frozen? ⟨b, 2, none⟩ = false ∧ w.frozen? ⟨b, 3, none⟩ = false ∧ w.frozen? ⟨b, 4, none⟩ = false ∧ w.frozen? ⟨b, 5, none⟩ = false :=
  ⟨⟨(cell_of h 0).trans rfl, (cell_of h 1).trans rfl, (cell_of h 2).trans rfl, (cell_of h 3).trans rfl, (cell_of h 4).trans rfl, (cell_of h 5).trans rfl⟩, frozen_of h 0, frozen_of h 1, frozen_of h 2, frozen_of h 3, frozen_of h 4, frozen_of h 5⟩
def put6 (w : World) (b : Nat) (v0 v1 v2 v3 v4 v5 : Value) : World := (((((w.setCell ⟨b, 0, none⟩ v0).setCell ⟨b, 1, none⟩ v1).setCell ⟨b, 2, none⟩ v2).setCell ⟨b, 3, none⟩ v3).setCell ⟨b, 4, none⟩ v4).setCell ⟨b, 5, none⟩ v5
theorem put6_at {w : World} {b : Nat} {T : TypeId} {u0 u1 u2 u3 u4 u5 : Value} (h : w.heap[b]? = some (.cells #[u0, u1, u2, u3, u4, u5] T (0, 0))) (v0 v1 v2 v3 v4 v5 : Value) : (put6 w b v0 v1 v2 v3 v4 v5).heap[b]? = some (.cells #[v0, v1, v2, v3, v4, v5] T (0, 0)) :=
  (setCell_at (setCell_at (setCell_at (setCell_at (setCell_at (setCell_at h 0 _) 1 _) 2 _) 3 _) 4 _) 5 _).trans (by simp)
theorem put6_same (w : World) (b : Nat) (v0 v1 v2 v3 v4 v5 : Value) : Same (fun k => k = b) w (put6 w b v0 v1 v2 v3 v4 v5) :=
  ((((((Same.refl (fun k => k = b) w).setCell _ (.inr rfl) _).setCell _ (.inr rfl) _).setCell _ (.inr rfl) _).setCell _ (.inr rfl) _).setCell _ (.inr rfl) _).setCell _ (.inr rfl) _
theorem loadVar_s6 {w : World} {b : Nat} {v0 v1 v2 v3 v4 v5 : ByteArray} (h : w.heap[b]? = some (.cells #[.string v0, .string v1, .string v2, .string v3, .string v4, .string v5] 75 (0, 0))) : (loadVar 75 ⟨b, 0, none⟩).run Tryd.prog w = .ok (.agg #[.string v0, .string v1, .string v2, .string v3, .string v4, .string v5]) w := by
  obtain ⟨⟨c0, c1, c2, c3, c4, c5⟩, -⟩ := six_obj h
  clear h
  go_simp
theorem loadVar_b6 {w : World} {b : Nat} {v0 v1 v2 v3 v4 v5 : Int} (h : w.heap[b]? = some (.cells #[.int .u8 v0, .int .u8 v1, .int .u8 v2, .int .u8 v3, .int .u8 v4, .int .u8 v5] 76 (0, 0))) : (loadVar 76 ⟨b, 0, none⟩).run Tryd.prog w = .ok (.agg #[.int .u8 v0, .int .u8 v1, .int .u8 v2, .int .u8 v3, .int .u8 v4, .int .u8 v5]) w := by
  obtain ⟨⟨c0, c1, c2, c3, c4, c5⟩, -⟩ := six_obj h
  clear h
  go_simp
set_option maxRecDepth 100000 in
set_option maxHeartbeats 1600000 in
theorem heads_any (w : World) : Calls Tryd.prog 36 #[] w fun e w' => e = .returned (.tuple #[.agg #[.string ⟨#[115]⟩, .string ⟨#[113]⟩, .string ⟨#[116]⟩, .string ⟨#[]⟩, .string ⟨#[99]⟩, .string ⟨#[]⟩], .agg #[.int .u8 32, .int .u8 32, .int .u8 45, .int .u8 32, .int .u8 45, .int .u8 32]]) ∧ Kept w w' := by
  obtain ⟨W0, e0⟩ : ∃ W0, W0 = (w.alloc (.cells #[.string ⟨#[]⟩, .string ⟨#[]⟩, .string ⟨#[]⟩, .string ⟨#[]⟩, .string ⟨#[]⟩, .string ⟨#[]⟩] 75 (0, 0))).alloc (.cells #[.int .u8 0, .int .u8 0, .int .u8 0, .int .u8 0, .int .u8 0, .int .u8 0] 76 (0, 0)) := ⟨_, rfl⟩
  have B : Hid _ := two_new w (.cells #[.string ⟨#[]⟩, .string ⟨#[]⟩, .string ⟨#[]⟩, .string ⟨#[]⟩, .string ⟨#[]⟩, .string ⟨#[]⟩] 75 (0, 0)) (.cells #[.int .u8 0, .int .u8 0, .int .u8 0, .int .u8 0, .int .u8 0, .int .u8 0] 76 (0, 0))
  rw [← e0] at B
  have K : Hid (Kept w W0) := by rw [e0]; exact ((Same.refl _ w).alloc _).alloc _
  obtain ⟨⟨c0, c1, c2, c3, c4, c5⟩, f0, f1, f2, f3, f4, f5⟩ := six_obj B.out.1
  obtain ⟨⟨d0, d1, d2, d3, d4, d5⟩, g0, g1, g2, g3, g4, g5⟩ := six_obj B.out.2
  have l1 := lt_of_heap B.out.1
  have l2 := lt_of_heap B.out.2
  go_enter Tryd.func36, Tryd.ntmps36
  go_upto_region 1 with fail
  rw [← e0]
  clear e0
  go_wp2_with fail
  have s1 := put6_same W0 w.heap.size (.string ⟨#[115]⟩) (.string ⟨#[113]⟩) (.string ⟨#[116]⟩) (.string ⟨#[]⟩) (.string ⟨#[99]⟩) (.string ⟨#[]⟩)
  have b1 := put6_at B.out.1 (.string ⟨#[115]⟩) (.string ⟨#[113]⟩) (.string ⟨#[116]⟩) (.string ⟨#[]⟩) (.string ⟨#[99]⟩) (.string ⟨#[]⟩)
  have b2 := (s1.block _ l2 (by omega)).trans B.out.2
  have s2 := put6_same (put6 W0 w.heap.size (.string ⟨#[115]⟩) (.string ⟨#[113]⟩) (.string ⟨#[116]⟩) (.string ⟨#[]⟩) (.string ⟨#[99]⟩) (.string ⟨#[]⟩)) (w.heap.size + 1) (.int .u8 32) (.int .u8 32) (.int .u8 45) (.int .u8 32) (.int .u8 45) (.int .u8 32)
  have b3 := put6_at b2 (.int .u8 32) (.int .u8 32) (.int .u8 45) (.int .u8 32) (.int .u8 45) (.int .u8 32)
  have b4 := (s2.block _ (lt_of_heap b1) (by omega)).trans b1
  refine bodyPost_ret (results_cc (a := 0) (b := 1) (t := 75) (u := 76) rfl rfl rfl (loadVar_s6 b4) (loadVar_b6 b3)) rfl ?_
  exact ⟨rfl, (Same.trans K.out s1 (fun i hi e => by omega)).trans s2 (fun i hi e => by omega)⟩
end Go.Proofs.YtlldgibpajbabaaDoor

namespace Go.Proofs.YtlldgibpajbabaaDoor
open Go.RowKit

theorem has_le {l : List UInt8} {k : Nat} {h : List UInt8} (hk : k ≤ l.length) (hp : Lib.hasPrefix (l.drop k) h = true) : k + h.length ≤ l.length := by
  have e := has_iff (l.drop k) h
  rw [hp] at e
  simp at e
  omega
theorem nstep_at {l : List UInt8} {k : Nat} (h : List UInt8) (c : UInt8) (hk : k ≤ l.length) (hp : Lib.hasPrefix (l.drop k) h = true) : nstep h c (l.drop k) =
    if upT l (k + h.length) c = l.length then none else match numb ((l.drop (k + h.length)).take (upT l (k + h.length) c - (k + h.length))) with
    | none => none
    | some n => some (n, l.drop (upT l (k + h.length) c + 1)) := by
  have hle := has_le hk hp
  unfold nstep cutc
  rw [hp, if_neg (by decide), List.drop_drop]
  have e : upT l (k + h.length) c = k + h.length + lead (fun b => b != c) (l.drop (k + h.length)) := rfl
  have hl := lead_le (fun b => b != c) (l.drop (k + h.length))
  rw [List.length_drop] at hl
  by_cases hc : lead (fun b => b != c) (l.drop (k + h.length)) = (l.drop (k + h.length)).length
  · rw [if_pos hc, if_pos (by rw [e, hc, List.length_drop]; omega)]
  · rw [if_neg hc, if_neg (by rw [e]; rw [List.length_drop] at hc; omega)]
    dsimp only
    rw [e, Nat.add_sub_cancel_left, List.drop_drop]
    generalize lead (fun b => b != c) (l.drop (k + h.length)) = m
    rw [show k + h.length + (m + 1) = k + h.length + m + 1 by omega]
    cases numb (List.take m (List.drop (k + h.length) l)) <;> rfl
/-- The boxes of Read since w: the result, the transaction, the numbers; the heads and tails at b. -/
structure Rx (w W : World) (b : Nat) (acc : List Nat) : Prop where
  b2 : W.heap[w.heap.size]? = some (.cells txz 25 (0, 0))
  b4 : W.heap[w.heap.size + 1]? = some (.cells txz 25 (0, 0))
  b5 : W.heap[w.heap.size + 2]? = some (.cells #[.int .i64 (acc.getD 0 0 : Nat), .int .i64 (acc.getD 1 0 : Nat), .int .i64 (acc.getD 2 0 : Nat), .int .i64 (acc.getD 3 0 : Nat), .int .i64 (acc.getD 4 0 : Nat), .int .i64 (acc.getD 5 0 : Nat)] 74 (0, 0))
  b6 : W.heap[b]? = some (.cells #[.string ⟨#[115]⟩, .string ⟨#[113]⟩, .string ⟨#[116]⟩, .string ⟨#[]⟩, .string ⟨#[99]⟩, .string ⟨#[]⟩] 75 (0, 0))
  b7 : W.heap[b + 1]? = some (.cells #[.int .u8 32, .int .u8 32, .int .u8 45, .int .u8 32, .int .u8 45, .int .u8 32] 76 (0, 0))
  kp : Kept w W
  lo : w.heap.size + 3 ≤ b
theorem Rx.on {w W W' : World} {b : Nat} {acc : List Nat} (h : Rx w W b acc) (k : Kept W W') : Rx w W' b acc :=
  ⟨(k.block _ (lt_of_heap h.b2) (fun e => e)).trans h.b2, (k.block _ (lt_of_heap h.b4) (fun e => e)).trans h.b4, (k.block _ (lt_of_heap h.b5) (fun e => e)).trans h.b5, (k.block _ (lt_of_heap h.b6) (fun e => e)).trans h.b6, (k.block _ (lt_of_heap h.b7) (fun e => e)).trans h.b7, h.kp.trans' k, h.lo⟩
theorem six_snoc (acc : List Nat) (n : Nat) (h : acc.length < 6) : (#[Value.int .i64 (acc.getD 0 0 : Nat), .int .i64 (acc.getD 1 0 : Nat), .int .i64 (acc.getD 2 0 : Nat), .int .i64 (acc.getD 3 0 : Nat), .int .i64 (acc.getD 4 0 : Nat), .int .i64 (acc.getD 5 0 : Nat)] : Array Value).setIfInBounds acc.length (.int .i64 (n : Nat)) = #[Value.int .i64 ((acc ++ [n]).getD 0 0 : Nat), .int .i64 ((acc ++ [n]).getD 1 0 : Nat), .int .i64 ((acc ++ [n]).getD 2 0 : Nat), .int .i64 ((acc ++ [n]).getD 3 0 : Nat), .int .i64 ((acc ++ [n]).getD 4 0 : Nat), .int .i64 ((acc ++ [n]).getD 5 0 : Nat)] := by
  match acc, h with
  | [], _ => rfl
  | [a], _ => rfl
  | [a, b], _ => rfl
  | [a, b, c], _ => rfl
  | [a, b, c, d], _ => rfl
  | [a, b, c, d, e], _ => rfl
theorem Rx.set {w W : World} {b : Nat} {acc : List Nat} (h : Rx w W b acc) (n : Nat) (hl : acc.length < 6) : Rx w (W.setCell ⟨w.heap.size + 2, acc.length, none⟩ (.int .i64 (n : Nat))) b (acc ++ [n]) :=
  have k : Same (fun j => j = w.heap.size + 2) W (W.setCell ⟨w.heap.size + 2, acc.length, none⟩ (.int .i64 (n : Nat))) := (Same.refl (fun j => j = w.heap.size + 2) W).setCell _ (.inr rfl) _
  have lo := h.lo
  ⟨(k.block _ (lt_of_heap h.b2) (by omega)).trans h.b2, (k.block _ (lt_of_heap h.b4) (by omega)).trans h.b4, (setCell_at h.b5 acc.length _).trans (by rw [six_snoc acc n hl]), (k.block _ (lt_of_heap h.b6) (by omega)).trans h.b6, (k.block _ (lt_of_heap h.b7) (by omega)).trans h.b7, Same.trans h.kp k (fun i hi e => by omega), h.lo⟩
end Go.Proofs.YtlldgibpajbabaaDoor

namespace Go.Proofs.YtlldgibpajbabaaDoor
open Go.RowKit

/-- One operation more behind a row of one's own, of many. -/
theorem app_op_many {w : World} {base : Nat} {v : Value} {xs : List OpM} (o : OpM) (hown : OwnO base w v xs) (hb : xs.length ≤ 1048576) (hbase : base ≤ w.heap.size) (ty : TypeId) :
    ∃ v' w', (Builtin.append_ #[23, 23] ty #[v, .slice (some ⟨w.heap.size, 0, none⟩) 1 1]).run Tryd.prog (w.alloc (.cells #[.int .i64 o.kind, .string o.key, .bool o.found, .string o.value] 49)) = .ok v' w' ∧ OwnO base w' v' (xs ++ [o]) ∧ Same (fun k => v.ownBlock = some k) w w' := by
  obtain ⟨i0, hi0, hz0, hz1, hz2⟩ := info_parts Tryd.infoOp
  have k0 : Kept w (w.alloc (.cells #[.int .i64 o.kind, .string o.key, .bool o.found, .string o.value] 49 (0, 0))) := (Same.refl _ w).alloc _
  have ho := OwnO.on hown k0
  obtain ⟨v', w', hr, r1, r2, -⟩ := run_append_own_at (P := Tryd.prog) (w := w.alloc (.cells #[.int .i64 o.kind, .string o.key, .bool o.found, .string o.value] 49)) base 23 ty 49 i0 _ 4 48 Tryd.underlying23 hi0 hz0 hz1 hz2 rfl (by decide) v xs.length _ ho ⟨w.heap.size, 0, none⟩ 1 1 (opc [o]) (length_opc [o])
    (fun j u hu => ops_cells (ops_new w o) j u hu) (opc_one _) (by unfold maxLen; omega) (by omega) (by simp [World.size_alloc]; omega)
  rw [← opc_append] at r1
  exact ⟨v', w', hr, by rw [OwnO, List.length_append]; exact r1, (Kept.to k0 _).trans' (Same.of_grown r2 (fun k e => e))⟩
/-- The result's box, the transaction's box and its operations, since w. -/
structure Ry (w W : World) (arr : Array Value) (v : Value) (acc : List OpM) : Prop where
  bq : W.heap[w.heap.size]? = some (.cells txz 25 (0, 0))
  bt : W.heap[w.heap.size + 1]? = some (.cells arr 25 (0, 0))
  own : OwnO (w.heap.size + 2) W v acc
  kp : Kept w W
theorem Ry.start {w W : World} {b : Nat} {ns : List Nat} (h : Rx w W b ns) (v0 v1 v2 v3 v4 v5 : Value) : Ry w (put8 W (w.heap.size + 1) v0 v1 v2 v3 v4 v5 (.int .i64 0) (.slice none 0 0)) #[v0, v1, v2, v3, v4, v5, .int .i64 0, .slice none 0 0] (.slice none 0 0) [] :=
  have s := put8_same W (w.heap.size + 1) v0 v1 v2 v3 v4 v5 (.int .i64 0) (.slice none 0 0)
  ⟨(s.block _ (lt_of_heap h.b2) (by omega)).trans h.b2, put8_at h.b4 .., World.ownsRow_nil _ _ _ _, Same.trans h.kp s (fun i hi e => by omega)⟩
theorem Ry.size {w W : World} {arr : Array Value} {v : Value} {acc : List OpM} (h : Ry w W arr v acc) : w.heap.size + 2 ≤ W.heap.size := lt_of_heap h.bt
theorem Ry.on {w W W' : World} {arr : Array Value} {v : Value} {acc : List OpM} (h : Ry w W arr v acc) (k : Kept W W') : Ry w W' arr v acc :=
  ⟨(k.block _ (lt_of_heap h.bq) (fun e => e)).trans h.bq, (k.block _ (lt_of_heap h.bt) (fun e => e)).trans h.bt, h.own.on k, h.kp.trans' k⟩
theorem Ry.set {w W : World} {arr : Array Value} {v : Value} {acc : List OpM} (h : Ry w W arr v acc) (i : Nat) (x : Value) : Ry w (W.setCell ⟨w.heap.size + 1, i, none⟩ x) (arr.setIfInBounds i x) v acc :=
  have k : Same (fun j => j = w.heap.size + 1) W (W.setCell ⟨w.heap.size + 1, i, none⟩ x) := (Same.refl (fun j => j = w.heap.size + 1) W).setCell _ (.inr rfl) _
  ⟨(k.block _ (lt_of_heap h.bq) (by omega)).trans h.bq, setCell_at h.bt i x, h.own.kept k (fun j hj e => by have := (h.own.blk hj).1; omega), Same.trans h.kp k (fun i hi e => by omega)⟩
theorem Ry.grow {w W W' : World} {arr : Array Value} {v v' : Value} {acc acc' : List OpM} (h : Ry w W arr v acc) (o : OwnO (w.heap.size + 2) W' v' acc') (k : Same (fun j => v.ownBlock = some j) W W') : Ry w W' arr v' acc' :=
  have ne : ∀ j, j < w.heap.size + 2 → ¬ v.ownBlock = some j := fun j hj e => by have := (h.own.blk e).1; omega
  ⟨(k.block _ (lt_of_heap h.bq) (ne _ (by omega))).trans h.bq, (k.block _ (lt_of_heap h.bt) (ne _ (by omega))).trans h.bt, o, Same.trans h.kp k (fun i hi e => (ne i (by omega) e).elim)⟩
theorem Ry.facts {w W : World} {arr : Array Value} {v : Value} {acc : List OpM} (h : Ry w W arr v acc) : w.heap.size + 1 < W.heap.size ∧ (∀ i, W.cell? ⟨w.heap.size + 1, i, none⟩ = arr[i]?) ∧ ∀ i, W.frozen? ⟨w.heap.size + 1, i, none⟩ = false := ⟨lt_of_heap h.bt, fun i => cell_of h.bt i, fun i => frozen_of h.bt i⟩
/-- The transaction handed back in the result's box. -/
theorem Ry.done {w W : World} {n0 n1 n2 n3 n4 n5 st : Int} {a : Option Addr} {c n : Nat} {acc : List OpM} {arr : Array Value} (h : Ry w W arr (.slice a n c) acc) :
    (loadVar 25 ⟨w.heap.size, 0, none⟩).run Tryd.prog (put8 W w.heap.size (.int .i64 n0) (.int .i64 n1) (.int .i64 n2) (.int .i64 n3) (.int .i64 n4) (.int .i64 n5) (.int .i64 st) (.slice a n c)) = .ok (.agg #[.int .i64 n0, .int .i64 n1, .int .i64 n2, .int .i64 n3, .int .i64 n4, .int .i64 n5, .int .i64 st, .slice a n c]) (put8 W w.heap.size (.int .i64 n0) (.int .i64 n1) (.int .i64 n2) (.int .i64 n3) (.int .i64 n4) (.int .i64 n5) (.int .i64 st) (.slice a n c)) ∧
    OwnO w.heap.size (put8 W w.heap.size (.int .i64 n0) (.int .i64 n1) (.int .i64 n2) (.int .i64 n3) (.int .i64 n4) (.int .i64 n5) (.int .i64 st) (.slice a n c)) (.slice a n c) acc ∧ Kept w (put8 W w.heap.size (.int .i64 n0) (.int .i64 n1) (.int .i64 n2) (.int .i64 n3) (.int .i64 n4) (.int .i64 n5) (.int .i64 st) (.slice a n c)) := by
  have k := put8_same W w.heap.size (.int .i64 n0) (.int .i64 n1) (.int .i64 n2) (.int .i64 n3) (.int .i64 n4) (.int .i64 n5) (.int .i64 st) (.slice a n c)
  have o := h.own.kept k (fun j hj e => by have := (h.own.blk hj).1; omega)
  refine ⟨loadVar_tx (put8_at h.bq ..), ?_, Same.trans h.kp k (fun i hi e => by omega)⟩
  rcases o.2 with ⟨e, hn⟩ | ⟨g, cap, cur, e, hb, r⟩
  · exact ⟨o.1, .inl ⟨e, hn⟩⟩
  · exact ⟨o.1, .inr ⟨g, cap, cur, e, by omega, r⟩⟩
theorem six_list {ns : List Nat} (h : ns.length = 6) : ∃ n0 n1 n2 n3 n4 n5, ns = [n0, n1, n2, n3, n4, n5] := by
  match ns, h with
  | [a, b, c, d, e, f], _ => exact ⟨a, b, c, d, e, f, rfl⟩
/-- What is read behind the status. -/
def tailS (st : Int) (o : Option (List OpM)) : Option (Int × List OpM) := match o with
  | none => none
  | some l => some (st, l)
theorem tailX_at {l : List UInt8} {k : Nat} : tailX (l.drop k) = if (l.drop k).take (upT l k 32 - k) = wCommit then tailS 1 (opsX (l.length - k) (l.drop (upT l k 32))) else if (l.drop k).take (upT l k 32 - k) = wAbort then tailS 0 (opsX (l.length - k) (l.drop (upT l k 32))) else none := by
  have e : upT l k 32 = k + lead (fun b => b != 32) (l.drop k) := rfl
  unfold tailX tailS
  rw [e, Nat.add_sub_cancel_left, ← List.drop_drop, List.length_drop]
  rfl
theorem opsX_at {l : List UInt8} {E n : Nat} (hr : Rest (l.drop E)) (hE : E < l.length) : opsX (n + 1) (l.drop E) = match opX ((l.drop (E + 1)).take (upT l (E + 1) 32 - (E + 1))) with
    | none => none
    | some o => match opsX n (l.drop (upT l (E + 1) 32)) with
      | none => none
      | some x => some (o :: x) := by
  have e : upT l (E + 1) 32 = E + 1 + lead (fun b => b != 32) (l.drop (E + 1)) := rfl
  have hd : l.drop E = 32 :: l.drop (E + 1) := by
    rcases hr with hr | ⟨r, hr⟩
    · have := congrArg List.length hr
      rw [List.length_drop] at this
      simp at this
      omega
    · have h2 : (l.drop E).drop 1 = r := by rw [hr]; rfl
      rw [List.drop_drop] at h2
      rw [hr, ← h2]
  have e2 : l.drop (E + 1 + lead (fun b => b != 32) (l.drop (E + 1))) = (l.drop (E + 1)).drop (lead (fun b => b != 32) (l.drop (E + 1))) := by rw [List.drop_drop]
  rw [hd, opsX, e, Nat.add_sub_cancel_left, e2]
  rfl
/-- What is read of operations, those ahead of it given. -/
def opsA (m : Nat) (s : List UInt8) (acc : List OpM) : Option (List OpM) := match opsX m s with
  | none => none
  | some x => some (acc ++ x)
theorem opsA_nil (m : Nat) (s : List UInt8) : opsA m s [] = opsX m s := by
  unfold opsA
  cases opsX m s <;> rfl
theorem opsA_end {l : List UInt8} {E : Nat} (h : ¬ E < l.length) (m : Nat) (acc : List OpM) : opsA m (l.drop E) acc = some acc := by
  rw [List.drop_of_length_le (by omega)]
  unfold opsA
  cases m <;> simp [opsX]
theorem opsA_none {l : List UInt8} {E m : Nat} {acc : List OpM} (hr : Rest (l.drop E)) (hE : E < l.length) (h : opX ((l.drop (E + 1)).take (upT l (E + 1) 32 - (E + 1))) = none) : opsA (m + 1) (l.drop E) acc = none := by
  unfold opsA
  rw [opsX_at hr hE, h]
theorem opsA_some {l : List UInt8} {E m : Nat} {acc : List OpM} {o : OpM} (hr : Rest (l.drop E)) (hE : E < l.length) (h : opX ((l.drop (E + 1)).take (upT l (E + 1) 32 - (E + 1))) = some o) : opsA (m + 1) (l.drop E) acc = opsA m (l.drop (upT l (E + 1) 32)) (acc ++ [o]) := by
  unfold opsA
  rw [opsX_at hr hE, h]
  dsimp only
  cases opsX m (l.drop (upT l (E + 1) 32)) with
  | none => rfl
  | some x => simp
/-- What Read reads behind the numbers. -/
def rdN (ns : List Nat) (q : Option (Int × List OpM)) : Option TxM := match q with
  | none => none
  | some (st, ops) => some (mkT ns st ops)
theorem rdX_nums {l : List UInt8} {ns : List Nat} {s : List UInt8} (h : numsX hd6 [] l = some (ns, s)) : rdX l = rdN ns (tailX s) := by
  unfold rdX rdN
  rw [h]
  rfl
theorem upT_rest (l : List UInt8) (k : Nat) : Rest (l.drop (upT l k 32)) := by
  have e : upT l k 32 = k + lead (fun b => b != 32) (l.drop k) := rfl
  rw [e, ← List.drop_drop]
  exact lead_rest _
end Go.Proofs.YtlldgibpajbabaaDoor
