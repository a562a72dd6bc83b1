/- What is proved: the code's readTxn; condition: the line's length. -/
import Derived.Test.YtlldgibpajbabaaDoorNoOps
namespace Go.Proofs.YtlldgibpajbabaaDoor
open Go.RowKit

/-- The reader, the result's box, the transaction's box and its operations, since w. -/
structure Tb (w W : World) (s : Rs) (arr : Array Value) (v : Value) (acc : List OpM) : Prop where
  rd : RdAt W (w.heap.size + 1) s
  bq : W.heap[w.heap.size]? = some (.cells txz 25 (0, 0))
  bt : W.heap[w.heap.size + 2]? = some (.cells arr 25 (0, 0))
  own : OwnO (w.heap.size + 3) W v acc
  kp : Kept w W
theorem OwnO.blk {base : Nat} {w : World} {v : Value} {l : List OpM} (h : OwnO base w v l) {k : Nat} (hk : v.ownBlock = some k) : base ≤ k ∧ k < w.heap.size := by
  rcases h.2 with ⟨rfl, hn⟩ | ⟨g, cap, cur, rfl, hb, hg, h1⟩
  · simp [Value.ownBlock] at hk
  · simp [Value.ownBlock] at hk
    subst hk
    exact ⟨hb, lt_of_heap hg⟩
theorem Tb.start (w : World) (l : List UInt8) : Tb w (((w.alloc (.cells txz 25 (0, 0))).alloc (.cells #[tx l, .bool false] 66 (0, 0))).alloc (.cells txz 25 (0, 0))) ⟨l, false⟩ txz (.slice none 0 0) [] := by
  have e1 : (w.alloc (.cells txz 25 (0, 0))).heap.size = w.heap.size + 1 := World.size_alloc ..
  have e2 : ((w.alloc (.cells txz 25 (0, 0))).alloc (.cells #[tx l, .bool false] 66 (0, 0))).heap.size = w.heap.size + 2 := by rw [World.size_alloc, e1]
  refine ⟨?_, ?_, ?_, World.ownsRow_nil _ _ _ _, (((Same.refl _ w).alloc _).alloc _).alloc _⟩
  · show _[w.heap.size + 1]? = _
    rw [heap_old _ _ (by omega), ← e1]
    exact heap_new _ _
  · rw [heap_old _ _ (by omega), heap_old _ _ (by omega)]
    exact heap_new _ _
  · rw [← e2]
    exact heap_new _ _
theorem Tb.size {w W : World} {s : Rs} {arr : Array Value} {v : Value} {acc : List OpM} (h : Tb w W s arr v acc) : w.heap.size + 3 ≤ W.heap.size := lt_of_heap h.bt
/-- The reader has moved. -/
theorem Tb.on {w W W' : World} {s s' : Rs} {arr : Array Value} {v : Value} {acc : List OpM} (h : Tb w W s arr v acc) (hr : RdAt W' (w.heap.size + 1) s') (m : Mv (w.heap.size + 1) W W') : Tb w W' s' arr v acc :=
  ⟨hr, m.box h.bq (by omega), m.box h.bt (by omega), h.own.kept m (fun k hk e => by have := (h.own.blk hk).1; omega), Same.trans h.kp m (fun i hi e => by omega)⟩
theorem Tb.kept {w W W' : World} {s : Rs} {arr : Array Value} {v : Value} {acc : List OpM} (h : Tb w W s arr v acc) (m : Kept W W') : Tb w W' s arr v acc :=
  h.on (h.rd.kept m) (m.to _)
/-- A cell of the transaction is written. -/
theorem Tb.set {w W : World} {s : Rs} {arr : Array Value} {v : Value} {acc : List OpM} (h : Tb w W s arr v acc) (i : Nat) (x : Value) : Tb w (W.setCell ⟨w.heap.size + 2, i, none⟩ x) s (arr.setIfInBounds i x) v acc :=
  have k : Same (fun j => j = w.heap.size + 2) W (W.setCell ⟨w.heap.size + 2, i, none⟩ x) := (Same.refl (fun j => j = w.heap.size + 2) W).setCell _ (.inr rfl) _
  ⟨h.rd.off k (by omega), (k.block _ (lt_of_heap h.bq) (by omega)).trans h.bq, setCell_at h.bt i x, h.own.kept k (fun j hj e => by have := (h.own.blk hj).1; omega), Same.trans h.kp k (fun i hi e => by omega)⟩
theorem Tb.facts {w W : World} {s : Rs} {arr : Array Value} {v : Value} {acc : List OpM} (h : Tb w W s arr v acc) : w.heap.size + 2 < W.heap.size ∧ (∀ i, W.cell? ⟨w.heap.size + 2, i, none⟩ = arr[i]?) ∧ ∀ i, W.frozen? ⟨w.heap.size + 2, i, none⟩ = false := ⟨lt_of_heap h.bt, fun i => cell_of h.bt i, fun i => frozen_of h.bt i⟩

def nv (p : List UInt8) (s : Rs) : Nat := (numO (mst p s)).getD 0
def nt (p : List UInt8) (s : Rs) : Rs := numS (mst p s)
/-- The states behind the six numbers, the blank and the status. -/
def z1 (l : List UInt8) : Rs := nt [115] ⟨l, false⟩
def z2 (l : List UInt8) : Rs := nt [32, 113] (z1 l)
def z3 (l : List UInt8) : Rs := nt [32, 116] (z2 l)
def z4 (l : List UInt8) : Rs := nt [45] (z3 l)
def z5 (l : List UInt8) : Rs := nt [32, 99] (z4 l)
def z6 (l : List UInt8) : Rs := nt [45] (z5 l)
def z7 (l : List UInt8) : Rs := mst [32] (z6 l)
def z8 (l : List UInt8) : Rs := stsS (z7 l)
def headT (l : List UInt8) (ops : List OpM) : TxM := ⟨nv [115] ⟨l, false⟩, nv [32, 113] (z1 l), nv [32, 116] (z2 l), nv [45] (z3 l), nv [32, 99] (z4 l), nv [45] (z5 l), stsV (z7 l), ops⟩
def opsR : Nat → List OpM → Rs → List OpM × Rs
  | 0, acc, s => (acc, s)
  | n + 1, acc, s => if s.l = [] ∨ s.f = true then (acc, s) else opsR n (if acc.length ≤ 16 then acc ++ [(opR s).1] else acc) (opR s).2
def rk (s : Rs) : Nat := if s.f = true then 0 else s.l.length + 1
/-- The transaction that a line writes, and whether it is of the form. -/
def readT (l : List UInt8) : TxM × Bool := (headT l (opsR (l.length + 2) [] (z8 l)).1, !(opsR (l.length + 2) [] (z8 l)).2.f)
theorem cut_len (p : List UInt8) (s : Rs) : (cutp p s).l.length ≤ s.l.length := trim_le _ _
theorem mst_len (p : List UInt8) (s : Rs) : (mst p s).l.length ≤ s.l.length := trim_le _ _
theorem wrd_len (s : Rs) : (wrdS s).l.length ≤ s.l.length := by show (s.l.drop _).length ≤ _; rw [List.length_drop]; omega
theorem mst_f (p : List UInt8) (s : Rs) (h : s.f = true) : (mst p s).f = true := by unfold mst; rw [h]; rfl
theorem wrd_f (s : Rs) (h : s.f = true) : (wrdS s).f = true := by unfold wrdS bad drp; simp [h]
theorem op_len (s : Rs) : (opR s).2.l.length ≤ (mst [32] s).l.length ∧ ((mst [32] s).f = true → (opR s).2.f = true) := by
  unfold opR
  dsimp only
  generalize mst [32] s = s1
  have c1 := cut_len [114, 40] s1
  split
  · have c2 := wrd_len (cutp [114, 40] s1)
    have c3 := mst_len [41, 61] (wrdS (cutp [114, 40] s1))
    have c4 := cut_len [45] (mst [41, 61] (wrdS (cutp [114, 40] s1)))
    split
    · exact ⟨by dsimp only; omega, fun h => mst_f _ _ (wrd_f _ h)⟩
    · have c5 := wrd_len (cutp [45] (mst [41, 61] (wrdS (cutp [114, 40] s1))))
      exact ⟨by dsimp only; omega, fun h => wrd_f _ (mst_f _ _ (wrd_f _ h))⟩
  · have c2 := cut_len [119, 40] (cutp [114, 40] s1)
    split
    · have c3 := wrd_len (cutp [119, 40] (cutp [114, 40] s1))
      have c4 := mst_len [41, 61] (wrdS (cutp [119, 40] (cutp [114, 40] s1)))
      have c5 := wrd_len (mst [41, 61] (wrdS (cutp [119, 40] (cutp [114, 40] s1))))
      exact ⟨by dsimp only; omega, fun h => wrd_f _ (mst_f _ _ (wrd_f _ h))⟩
    · have c3 := mst_len [100, 40] (cutp [119, 40] (cutp [114, 40] s1))
      have c4 := wrd_len (mst [100, 40] (cutp [119, 40] (cutp [114, 40] s1)))
      have c5 := mst_len [41] (wrdS (mst [100, 40] (cutp [119, 40] (cutp [114, 40] s1))))
      exact ⟨by dsimp only; omega, fun h => mst_f _ _ (wrd_f _ (mst_f _ _ h))⟩
theorem op_rk {s : Rs} (h : s.f = false) : rk (opR s).2 < rk s := by
  obtain ⟨h1, h2⟩ := op_len s
  unfold rk
  rw [h]
  simp only [Bool.false_eq_true, if_false]
  by_cases hp : Lib.hasPrefix s.l [32] = true
  · have : (mst [32] s).l.length + 1 ≤ s.l.length := by
      unfold mst Lib.trimPrefix
      dsimp only
      rw [if_pos hp, List.length_drop]
      unfold Lib.hasPrefix at hp
      have := (List.isPrefixOf_iff_prefix.1 hp).length_le
      simp at this ⊢
      omega
    split <;> omega
  · have : (mst [32] s).f = true := by unfold mst; simp [hp]
    rw [if_pos (h2 this)]
    omega
theorem nt_ok {s : Rs} (h : s.ok) (p : List UInt8) : (nt p s).ok := (h.mst p).num
theorem z8_ok {l : List UInt8} (h : l.length ≤ 140737488355328) : (z8 l).ok := by
  have h0 : (⟨l, false⟩ : Rs).ok := h
  exact ((nt_ok (nt_ok (nt_ok (nt_ok (nt_ok (nt_ok h0 _) _) _) _) _) _).mst _).sts
theorem nt_len (p : List UInt8) (s : Rs) : (nt p s).l.length ≤ s.l.length := Nat.le_trans (by show ((mst p s).l.drop _).length ≤ _; rw [List.length_drop]; omega) (mst_len p s)
theorem z8_len (l : List UInt8) : (z8 l).l.length ≤ l.length := by
  have h1 := nt_len [115] ⟨l, false⟩
  have h2 := nt_len [32, 113] (z1 l)
  have h3 := nt_len [32, 116] (z2 l)
  have h4 := nt_len [45] (z3 l)
  have h5 := nt_len [32, 99] (z4 l)
  have h6 := nt_len [45] (z5 l)
  have h7 := mst_len [32] (z6 l)
  have h8 : (z8 l).l.length ≤ (z7 l).l.length := by
    unfold z8 stsS
    split
    · exact cut_len _ _
    · exact Nat.le_trans (mst_len _ _) (cut_len _ _)
  unfold z7 z6 z5 z4 z3 z2 z1 at *
  simp only at *
  omega
end Go.Proofs.YtlldgibpajbabaaDoor
