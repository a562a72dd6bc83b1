/- What is proved: lists of transactions of one's own in memory; an argument that is a list of transactions; the bounds that a machine's memory sets. -/
import Derived.Test.YtlldgibpajbabaaDoorNoOT
import Derived.Deep.CutRange
import Derived.Deep.RegionWith
namespace Go.Proofs.YtlldgibpajbabaaDoor
open Go.RowKit

/-- A transaction, and where its operations lie. -/
structure TxR where
  t : TxM
  a : Option Addr
  c : Nat
def TxR.v (r : TxR) : Value := txV r.t (.slice r.a r.t.ops.length r.c)
def TxR.cells (r : TxR) : List Value := [.int .i64 r.t.f0, .int .i64 r.t.f1, .int .i64 r.t.f2, .int .i64 r.t.f3, .int .i64 r.t.f4, .int .i64 r.t.f5, .int .i64 r.t.f6, .slice r.a r.t.ops.length r.c]
def txc (l : List TxR) : List Value := l.flatMap TxR.cells
theorem txc_cons (r : TxR) (l : List TxR) : txc (r :: l) = r.cells ++ txc l := rfl
theorem txc_append (a b : List TxR) : txc (a ++ b) = txc a ++ txc b := by simp [txc]
theorem length_txc (l : List TxR) : (txc l).length = l.length * 8 := by
  induction l with
  | nil => rfl
  | cons a r ih =>
    rw [txc_cons, List.length_append, ih]
    simp only [TxR.cells, List.length_cons, List.length_nil]
    omega
theorem txc_get {l : List TxR} {i : Nat} {r : TxR} (h : l[i]? = some r) {j : Nat} (hj : j < 8) : (txc l)[i * 8 + j]? = r.cells[j]? := by
  induction l generalizing i with
  | nil => simp at h
  | cons a l ih =>
    rw [txc_cons]
    cases i with
    | zero =>
      simp only [List.getElem?_cons_zero, Option.some.injEq] at h
      subst h
      rw [Nat.zero_mul, Nat.zero_add, List.getElem?_append_left (by simpa [TxR.cells] using hj)]
    | succ i =>
      simp only [List.getElem?_cons_succ] at h
      rw [List.getElem?_append_right (by simp only [TxR.cells, List.length_cons, List.length_nil]; omega), ← ih h]
      congr 1
      simp only [TxR.cells, List.length_cons, List.length_nil]
      omega
theorem txc_one (l : List TxR) : ∀ v ∈ txc l, v.oneCell' = true := by
  intro v hv
  obtain ⟨o, _, hf⟩ := List.mem_flatMap.1 hv
  simp only [TxR.cells, List.mem_cons, List.not_mem_nil, or_false] at hf
  rcases hf with rfl | rfl | rfl | rfl | rfl | rfl | rfl | rfl <;> rfl
/-- The transactions l lie in w from address a on. -/
def TxsAt (w : World) (a : Option Addr) (l : List TxR) : Prop := ∀ i r, l[i]? = some r → ∃ b off, a = some ⟨b, off, none⟩ ∧ b < w.heap.size ∧ ∀ j, j < 8 → w.cell? ⟨b, off + i * 8 + j, none⟩ = r.cells[j]?
/-- Their operations lie in w. -/
def Deep (w : World) (l : List TxR) : Prop := ∀ r ∈ l, OpsAt w r.a r.t.ops
theorem Deep.on {w w' : World} {l : List TxR} (h : Deep w l) (k : Kept w w') : Deep w' l := fun r hr => (h r hr).on k
theorem Deep.cons {w : World} {l : List TxR} {r : TxR} (h : OpsAt w r.a r.t.ops) (k : Deep w l) : Deep w (r :: l) := fun x hx => by
  rcases List.mem_cons.1 hx with rfl | hx
  · exact h
  · exact k x hx
theorem Deep.append {w : World} {l m : List TxR} (h : Deep w l) (k : Deep w m) : Deep w (l ++ m) := fun x hx => by
  rcases List.mem_append.1 hx with hx | hx
  · exact h x hx
  · exact k x hx
theorem Deep.get {w : World} {l : List TxR} (h : Deep w l) {i : Nat} {r : TxR} (hr : l[i]? = some r) : TxA w r.t r.v := ⟨r.a, r.c, rfl, h r (List.mem_of_getElem? hr)⟩
theorem TxsAt.nil (w : World) (a : Option Addr) : TxsAt w a [] := fun i x h => by simp at h
theorem TxsAt.kept {S : Nat → Prop} {w w' : World} {a : Option Addr} {l : List TxR} (h : TxsAt w a l) (hs : Same S w w') (hd : ∀ k, InB a l.length k → ¬ S k) : TxsAt w' a l := fun i x hx => by
  obtain ⟨b, off, rfl, hb, hc⟩ := h i x hx
  have hk := hd b ⟨pos_of_get hx, off, rfl⟩
  exact ⟨b, off, rfl, Nat.lt_of_lt_of_le hb hs.size, fun j hj => (hs.cell (p := ⟨b, _, none⟩) hb hk).trans (hc j hj)⟩
theorem TxsAt.on {w w' : World} {a : Option Addr} {l : List TxR} (h : TxsAt w a l) (hs : Kept w w') : TxsAt w' a l := h.kept hs fun _ _ h => h
/-- The eight cells of the transaction at place i. -/
theorem TxsAt.get {w : World} {b off : Nat} {l : List TxR} (h : TxsAt w (some ⟨b, off, none⟩) l) {i : Nat} {r : TxR} (hr : l[i]? = some r) :
    w.cell? ⟨b, off + i * 8, none⟩ = some (.int .i64 r.t.f0) ∧ w.cell? ⟨b, off + i * 8 + 1, none⟩ = some (.int .i64 r.t.f1) ∧ w.cell? ⟨b, off + i * 8 + 2, none⟩ = some (.int .i64 r.t.f2) ∧ w.cell? ⟨b, off + i * 8 + 3, none⟩ = some (.int .i64 r.t.f3) ∧ w.cell? ⟨b, off + i * 8 + 4, none⟩ = some (.int .i64 r.t.f4) ∧ w.cell? ⟨b, off + i * 8 + 5, none⟩ = some (.int .i64 r.t.f5) ∧ w.cell? ⟨b, off + i * 8 + 6, none⟩ = some (.int .i64 r.t.f6) ∧ w.cell? ⟨b, off + i * 8 + 7, none⟩ = some (.slice r.a r.t.ops.length r.c) := by
  obtain ⟨b', off', e, -, hc⟩ := h i r hr
  cases e
  exact ⟨hc 0 (by decide), hc 1 (by decide), hc 2 (by decide), hc 3 (by decide), hc 4 (by decide), hc 5 (by decide), hc 6 (by decide), hc 7 (by decide)⟩
/-- The value v is a row of one's own of the transactions l. -/
def OwnT (base : Nat) (w : World) (v : Value) (l : List TxR) : Prop := w.ownsRow base 25 8 v l.length (txc l)
theorem OwnT.nil (base : Nat) (w : World) : OwnT base w (.slice none 0 0) [] := World.ownsRow_nil w base 25 8
theorem OwnT.txs {base : Nat} {w : World} {v : Value} {l : List TxR} (h : OwnT base w v l) : ∃ a cap, v = .slice a l.length cap ∧ TxsAt w a l ∧ l.length ≤ cap ∧ (a = none → l.length = 0 ∧ cap = 0) ∧ (∀ k off, a = some ⟨k, off, none⟩ → base ≤ k ∧ off = 0) ∧ (∀ ad, a = some ad → ad.spot = none) := by
  rcases h.2 with ⟨rfl, hn⟩ | ⟨g, cap, cur, rfl, hb, hg, h1, h2, h3, h4⟩
  · obtain rfl : l = [] := List.eq_nil_of_length_eq_zero hn
    exact ⟨none, 0, rfl, TxsAt.nil _ _, Nat.le_refl _, fun _ => ⟨rfl, rfl⟩, fun _ _ e => (by cases e), fun _ e => (by cases e)⟩
  · refine ⟨_, cap, rfl, fun i x hx => ⟨g, 0, rfl, lt_of_heap hg, fun j hj => ?_⟩, h1, fun e => (by cases e), fun k off e => (by cases e; exact ⟨hb, rfl⟩), fun _ e => (by cases e; rfl)⟩
    have hi := (List.getElem?_eq_some_iff.1 hx).1
    rw [cell_of hg, Nat.zero_add, ← txc_get hx hj, ← h4, List.getElem?_take_of_lt (by omega)]
    simp
theorem OwnT.kept {S : Nat → Prop} {base : Nat} {w w' : World} {v : Value} {l : List TxR} (h : OwnT base w v l) (hs : Same S w w') (hn : ∀ k, v.ownBlock = some k → ¬ S k) : OwnT base w' v l := by
  rcases h.2 with ⟨rfl, h0⟩ | ⟨g, cap, cur, rfl, hb, hg, hr⟩
  · exact ⟨h.1, .inl ⟨rfl, h0⟩⟩
  · exact ⟨h.1, .inr ⟨g, cap, cur, rfl, hb, (hs.block _ (lt_of_heap hg) (hn g rfl)).trans hg, hr⟩⟩
theorem OwnT.on {base : Nat} {w w' : World} {v : Value} {l : List TxR} (h : OwnT base w v l) (hs : Kept w w') : OwnT base w' v l := h.kept hs fun _ _ h => h
theorem OwnT.lower {base base' : Nat} {w : World} {v : Value} {l : List TxR} (h : OwnT base w v l) (hb : base' ≤ base) : OwnT base' w v l := by
  rcases h.2 with ⟨rfl, h0⟩ | ⟨g, cap, cur, rfl, hb', hr⟩
  · exact ⟨h.1, .inl ⟨rfl, h0⟩⟩
  · exact ⟨h.1, .inr ⟨g, cap, cur, rfl, Nat.le_trans hb hb', hr⟩⟩
theorem OwnT.block {base : Nat} {w : World} {v : Value} {l : List TxR} (h : OwnT base w v l) {k : Nat} (hk : v.ownBlock = some k) : base ≤ k ∧ k < w.heap.size := by
  rcases h.2 with ⟨rfl, h0⟩ | ⟨g, cap, cur, rfl, hb, hg, hr⟩
  · cases hk
  · cases hk
    exact ⟨hb, lt_of_heap hg⟩
/-- A row of one transaction. -/
theorem txs_new (w : World) (r : TxR) (ty : TypeId) : ∀ j u, (txc [r])[j]? = some u → (w.alloc (.cells #[.int .i64 r.t.f0, .int .i64 r.t.f1, .int .i64 r.t.f2, .int .i64 r.t.f3, .int .i64 r.t.f4, .int .i64 r.t.f5, .int .i64 r.t.f6, .slice r.a r.t.ops.length r.c] ty)).cell? ((⟨w.heap.size, 0, none⟩ : Addr).add j) = some u := fun j u hu => by
  rw [Addr.add_lit, Nat.zero_add, cell_of (heap_new w _)]
  rw [← hu]
  simp [txc, TxR.cells]
end Go.Proofs.YtlldgibpajbabaaDoor

namespace Go.Proofs.YtlldgibpajbabaaDoor
open Go.RowKit

theorem Tryd.infoTxn : (Tryd.prog.info? 25).map (fun i => (i.zero, i.size, i.bytes)) = some (some (.agg txz), 8, 80) := by kernel_rfl
def TxR.obj (r : TxR) : Obj := .cells #[.int .i64 r.t.f0, .int .i64 r.t.f1, .int .i64 r.t.f2, .int .i64 r.t.f3, .int .i64 r.t.f4, .int .i64 r.t.f5, .int .i64 r.t.f6, .slice r.a r.t.ops.length r.c] 25 (0, 0)
/-- The operations of a transaction, as a value. -/
def TxR.sl (r : TxR) : Value := .slice r.a r.t.ops.length r.c
/-- One transaction more behind a row of one's own. -/
theorem app_tx_one {w : World} {base : Nat} {v : Value} {xs : List TxR} (r : TxR) (hown : OwnT base w v xs) (hb : xs.length ≤ 5000) (hbase : base ≤ w.heap.size) (ty : TypeId) :
    ∃ v' w', (Builtin.append_ #[33, 33] ty #[v, .slice (some ⟨w.heap.size, 0, none⟩) 1 1]).run Tryd.prog (w.alloc r.obj) = .ok v' w' ∧ OwnT base w' v' (xs ++ [r]) ∧ Same (fun k => v.ownBlock = some k) w w' ∧ ∀ k, v'.ownBlock = some k → v.ownBlock = some k ∨ w.heap.size ≤ k := by
  obtain ⟨i0, hi0, hz0, hz1, hz2⟩ := info_parts Tryd.infoTxn
  have k0 : Kept w (w.alloc r.obj) := (Same.refl _ w).alloc _
  have ho := OwnT.on hown k0
  obtain ⟨v', w', hr, r1, r2, _, r3⟩ := run_append_own_at (P := Tryd.prog) (w := w.alloc r.obj) base 33 ty 25 i0 _ 8 80 Tryd.underlying33 hi0 hz0 hz1 hz2 rfl (by decide) v xs.length _ ho ⟨w.heap.size, 0, none⟩ 1 1 (txc [r]) (length_txc [r])
    (fun j u hu => txs_new w r _ j u hu) (txc_one _) (by unfold maxLen; omega) (by omega) (by simp [World.size_alloc]; omega)
  rw [← txc_append] at r1
  refine ⟨v', w', hr, by rw [OwnT, List.length_append]; exact r1, (Kept.to k0 _).trans' (Same.of_grown r2 (fun k e => e)), fun k hk => ?_⟩
  rcases r3 with e | e
  · exact .inl (e ▸ hk)
  · rw [e] at hk
    cases hk
    rw [World.size_alloc]
    exact .inr (by omega)
/-- The blocks of a list of transactions. -/
def InL (v : Value) (l : List TxR) (k : Nat) : Prop := v.ownBlock = some k ∨ ∃ r ∈ l, r.sl.ownBlock = some k
/-- A list of transactions of one's own, the operations apart of it. -/
structure Lst (base : Nat) (w : World) (v : Value) (l : List TxR) : Prop where
  row : OwnT base w v l
  ops : ∀ r ∈ l, OwnO base w r.sl r.t.ops
  ne : ∀ r ∈ l, ∀ k, r.sl.ownBlock = some k → v.ownBlock ≠ some k
  ap : l.Pairwise fun r r' => ∀ k, r.sl.ownBlock = some k → r'.sl.ownBlock ≠ some k
section
variable {base : Nat} {w w' : World} {v : Value} {l : List TxR}
theorem Lst.nil (base : Nat) (w : World) : Lst base w (.slice none 0 0) [] := ⟨OwnT.nil _ _, fun r h => (by cases h), fun r h => (by cases h), .nil⟩
theorem Lst.block (h : Lst base w v l) {k : Nat} (hk : InL v l k) : base ≤ k ∧ k < w.heap.size := by
  rcases hk with hk | ⟨r, hr, hk⟩
  · exact h.row.block hk
  · exact (h.ops r hr).block hk
theorem Lst.kept {S : Nat → Prop} (h : Lst base w v l) (hs : Same S w w') (hn : ∀ k, InL v l k → ¬ S k) : Lst base w' v l :=
  ⟨h.row.kept hs fun k hk => hn k (.inl hk), fun r hr => (h.ops r hr).kept hs fun k hk => hn k (.inr ⟨r, hr, hk⟩), h.ne, h.ap⟩
theorem Lst.on (h : Lst base w v l) (hs : Kept w w') : Lst base w' v l := h.kept hs fun _ _ h => h
theorem Lst.lower {base' : Nat} (h : Lst base w v l) (hb : base' ≤ base) : Lst base' w v l := ⟨h.row.lower hb, fun r hr => (h.ops r hr).lower hb, h.ne, h.ap⟩
theorem Lst.deep (h : Lst base w v l) : Deep w l := fun r hr => by
  obtain ⟨a, c, e, o, -⟩ := OwnO.ops (h.ops r hr)
  simp only [TxR.sl, Value.slice.injEq, true_and] at e
  rw [e.1]
  exact o
/-- One more, of operations of its own. -/
theorem Lst.app {W : World} {r : TxR} {v' : Value} (h : Lst base w v l) (k1 : Kept w W) (ho : OwnO w.heap.size W r.sl r.t.ops) (hb : base ≤ w.heap.size) (hr : OwnT base w' v' (l ++ [r])) (hs : Same (fun k => v.ownBlock = some k) W w') (hv : ∀ k, v'.ownBlock = some k → v.ownBlock = some k ∨ W.heap.size ≤ k) :
    Lst base w' v' (l ++ [r]) ∧ ∀ k, InL v' (l ++ [r]) k → InL v l k ∨ w.heap.size ≤ k := by
  have hne : ∀ x ∈ l ++ [r], ∀ k, x.sl.ownBlock = some k → v.ownBlock ≠ some k ∧ k < W.heap.size ∧ (k < w.heap.size → InL v l k) := fun x hx k hk => by
    rcases List.mem_append.1 hx with hx | hx
    · have := ((h.ops x hx).block hk).2
      exact ⟨h.ne x hx k hk, Nat.lt_of_lt_of_le this k1.size, fun _ => .inr ⟨x, hx, hk⟩⟩
    · obtain rfl : x = r := by simpa using hx
      have := ho.block hk
      refine ⟨fun e => ?_, this.2, fun c => absurd c (Nat.not_lt.2 this.1)⟩
      have := (h.row.block e).2
      omega
  refine ⟨⟨hr, fun x hx => ?_, fun x hx k hk e => ?_, List.pairwise_append.2 ⟨h.ap, List.pairwise_singleton _ _, fun x hx y hy k hk e => ?_⟩⟩, fun k hk => ?_⟩
  · rcases List.mem_append.1 hx with hx' | hx'
    · exact ((h.ops x hx').on k1).kept hs fun k hk => (hne x hx k hk).1
    · obtain rfl : x = r := by simpa using hx'
      exact (ho.kept hs fun k hk => (hne x hx k hk).1).lower hb
  · obtain ⟨n1, n2, -⟩ := hne x hx k hk
    rcases hv k e with e | e
    · exact n1 e
    · omega
  · obtain rfl : y = r := by simpa using hy
    have := ((h.ops x hx).block hk).2
    have := (ho.block e).1
    omega
  · rcases hk with hk | ⟨x, hx, hk⟩
    · rcases hv k hk with e | e
      · exact .inl (.inl e)
      · exact .inr (Nat.le_trans k1.size e)
    · by_cases c : k < w.heap.size
      · exact .inl ((hne x hx k hk).2.2 c)
      · exact .inr (Nat.not_lt.1 c)
end
end Go.Proofs.YtlldgibpajbabaaDoor

namespace Go.Proofs.YtlldgibpajbabaaDoor
open Go.ChangeShapes Go.WideShapes Go.ChangeAt Go.RowKit

instance : Inhabited TxR := ⟨⟨(⟨0, 0, 0, 0, 0, 0, 0, []⟩ : TxM), none, 0⟩⟩
theorem Tryd.cellsT : Tryd.prog.cellsOf 25 = 8 := by kernel_rfl
theorem Tryd.bytesT : Tryd.prog.bytesOf 25 = 80 := by kernel_rfl
theorem mem_weightsAll {H : Type} {P : Program} {e : TypeId} {d : DataW H} {n : Nat} (hn : n ∈ d.weights P e) : ∀ {l : List (DataW H)}, d ∈ l → n ∈ DataW.weightsAll P e l
  | a :: r, h => by
    simp only [DataW.weightsAll, List.mem_append]
    rcases List.mem_cons.1 h with rfl | h
    · exact .inl hn
    · exact .inr (mem_weightsAll hn h)
/-- What is known of an argument that is a list of transactions. -/
structure ArgL (w : World) (a : Option Addr) (c : Nat) (l : List TxR) : Prop where
  txs : TxsAt w a l
  nil : a = none → l.length = 0 ∧ c = 0
  len : l.length * 80 ≤ reachBytes
  each : ∀ r ∈ l, ArgT w r.t r.a r.c
theorem ArgL.on {w w' : World} {a : Option Addr} {c : Nat} {l : List TxR} (h : ArgL w a c l) (k : Kept w w') : ArgL w' a c l := ⟨h.txs.on k, h.nil, h.len, fun r hr => (h.each r hr).on k⟩
theorem ArgL.deep {w : World} {a : Option Addr} {c : Nat} {l : List TxR} (h : ArgL w a c l) : Deep w l := fun r hr => (h.each r hr).ops
theorem ArgL.le {w : World} {a : Option Addr} {c : Nat} {l : List TxR} (h : ArgL w a c l) : l.length * 80 ≤ 140737488351232 := by
  have := h.len
  unfold reachBytes at this
  omega
theorem open_argL {H : Type} {enc : TypeId × Value → H} {W : World} {fuel : Nat} {sa : Option Addr} {len cap : Nat} {d : DataW H} {p : List MemPlace}
    (h : DataW.trod enc Tryd.prog W 0 (fun _ => true) true fuel 33 [.slice sa len cap] = some (d, p)) : ∃ l : List TxR, len = l.length ∧ ((∀ n ∈ d.weights Tryd.prog 33, n ≤ reachBytes) → ArgL W sa cap l) := by
  rcases Go.Deep.open_slice Tryd.underlying33 h with ⟨hcs, hd⟩ | ⟨a, len', cap', m, n, D, Pl, hcs, _, hl, hm, hmm, hd, hx⟩
  · simp only [List.cons.injEq, Value.slice.injEq, and_true] at hcs
    obtain ⟨rfl, rfl, rfl⟩ := hcs
    exact ⟨[], rfl, fun _ => ⟨TxsAt.nil _ _, fun _ => ⟨rfl, rfl⟩, by simp, fun r h => (by cases h)⟩⟩
  · simp only [List.cons.injEq, Value.slice.injEq, and_true] at hcs
    obtain ⟨rfl, rfl, rfl⟩ := hcs
    simp only [if_true] at hmm
    simp only [Prod.mk.injEq] at hd
    have each : ∀ i, i < len → ∃ r : TxR, (∀ j, j < 8 → W.cell? (a.add (i * 8 + j)) = r.cells[j]?) ∧ ((∀ n ∈ (D i).weights Tryd.prog 25, n ≤ reachBytes) → ArgT W r.t r.a r.c) := by
      intro i hi
      obtain ⟨cs', h1, h2⟩ := hx i (by omega)
      rw [Tryd.cellsT] at h1
      obtain ⟨_, hlen, hcell⟩ := World.cells?_some h1
      obtain ⟨t, ta, tc, e, hw⟩ := open_txn (cs := cs'.toArray) (by rw [Tryd.cellsT]; simpa using hlen) h2
      refine ⟨⟨t, ta, tc⟩, fun j hj => ?_, hw⟩
      have e2 : cs' = TxR.cells ⟨t, ta, tc⟩ := by
        have := congrArg (fun v => match v with | Value.agg x => x.toList | _ => []) e
        simpa [txV, TxR.cells] using this
      have c0 := hcell j (by omega)
      rw [Go.Deep.add_add] at c0
      rw [c0, ← e2]
    obtain ⟨q, hq⟩ := Go.Deep.choose_lt each
    obtain ⟨e1, e2⟩ := list_of len q
    refine ⟨(List.range len).map q, e1.symm, fun hw => ⟨fun i x hi => ?_, fun e => (by cases e), ?_, fun r hr => ?_⟩⟩
    · obtain ⟨hi', rfl⟩ := e2 i x hi
      obtain ⟨h0, -⟩ := hq i hi'
      have h00 := (hq 0 (by omega)).1 0 (by decide)
      obtain ⟨b, off, spot⟩ := a
      have hspot : spot = none := by
        have : (W.cell? ((⟨b, off, spot⟩ : Addr).add (0 * 8 + 0))).isSome = true := by rw [h00]; rfl
        obtain ⟨v, hv⟩ := Option.isSome_iff_exists.1 this
        simpa [Addr.add] using World.cell?_spot hv
      subst hspot
      have h1 := h0 0 (by decide)
      refine ⟨b, off, rfl, ?_, fun j hj => ?_⟩
      · have : (W.cell? ((⟨b, off, none⟩ : Addr).add (i * 8 + 0))).isSome = true := by rw [h1]; rfl
        obtain ⟨v, hv⟩ := Option.isSome_iff_exists.1 this
        rw [Go.WideShapes.add_plain] at hv
        exact World.block_lt_of_cell? W _ hv
      · have := h0 j hj
        rw [Go.WideShapes.add_plain] at this
        rw [Nat.add_assoc]
        exact this
    · rw [e1]
      have := hw ((len + (m - len)) * 80) (by
        rw [hd.1]
        simp only [DataW.weights, Tryd.underlying33, Tryd.bytesT, List.length_map, List.length_range]
        exact List.mem_cons_self)
      omega
    · obtain ⟨i, hi, rfl⟩ := List.mem_map.1 hr
      have hi' := List.mem_range.1 hi
      exact (hq i hi').2 fun n hn => hw n (by
        rw [hd.1]
        simp only [DataW.weights, Tryd.underlying33]
        exact List.mem_cons_of_mem _ (List.mem_append_left _ (mem_weightsAll hn (List.mem_map.2 ⟨i, hi, rfl⟩))))
end Go.Proofs.YtlldgibpajbabaaDoor

namespace Go.Proofs.YtlldgibpajbabaaDoor
open Go.RowKit

set_option maxRecDepth 100000 in
set_option maxHeartbeats 1600000 in
theorem sameL (w : World) (oa ob : Option Addr) (ca cb : Nat) (l m : List TxR) (ha : TxsAt w oa l) (hb : TxsAt w ob m) (da : Deep w l) (db : Deep w m) (he : l.map TxR.t = m.map TxR.t) (hl : l.length ≤ 140737488355328) (hops : ∀ t ∈ l.map TxR.t, t.ops.length ≤ 9223372036854775807) :
    Calls Tryd.prog 16 #[.slice oa l.length ca, .slice ob m.length cb] w fun e w' => e = .returned (.bool true) ∧ Kept w w' := by
  have hlen : l.length = m.length := by have := congrArg List.length he; simpa using this
  rw [← hlen]
  obtain ⟨n, en⟩ : ∃ n, n = l.length := ⟨_, rfl⟩
  have EN : Hid _ := en
  have HA : Hid _ := ha
  have HB : Hid _ := hb
  have HDA : Hid _ := da
  have HDB : Hid _ := db
  have HE : Hid _ := he
  have HOP : Hid _ := hops
  have hni : (n : Int) ≤ 140737488355328 := by omega
  rw [← en]
  have HLEN : Hid _ := hlen
  clear ha hb da db he hops hlen en
  go_enter Tryd.func16, Tryd.ntmps16
  go_wp2_with fail
  go_loopw [5] (fun i W => ∃ k : Nat, i = .int .i64 k ∧ k ≤ n ∧ Kept w W) (fun i _ => n - (intOf i).toNat)
  case atStart => exact ⟨0, rfl, Nat.zero_le _, Same.refl _ _⟩
  case round =>
    obtain ⟨k, rfl, hk, hkw⟩ := hrel
    have KW : Hid _ := hkw
    clear hkw
    by_cases hkn : k < n
    · have d1 : decide ((k : Int) < (n : Int)) = true := decide_eq_true (by omega)
      have hkn2 : (k : Int) < (n : Int) := by omega
      obtain ⟨r, hr⟩ : ∃ r, l[k]? = some r := ⟨_, List.getElem?_eq_getElem (by rw [← EN.out]; exact hkn)⟩
      obtain ⟨q, hq⟩ : ∃ q, m[k]? = some q := ⟨_, List.getElem?_eq_getElem (by rw [← HLEN.out, ← EN.out]; exact hkn)⟩
      have hrq : r.t = q.t := by
        have h1 := congrArg (fun x => x[k]?) HE.out
        simpa [List.getElem?_map, hr, hq] using h1
      obtain ⟨b1, off1, rfl, hb1, -⟩ := HA.out _ _ hr
      obtain ⟨b2, off2, rfl, hb2, -⟩ := HB.out _ _ hq
      obtain ⟨x0, x1, x2, x3, x4, x5, x6, x7⟩ := TxsAt.get (TxsAt.on HA.out KW.out) hr
      obtain ⟨y0, y1, y2, y3, y4, y5, y6, y7⟩ := TxsAt.get (TxsAt.on HB.out KW.out) hq
      have hb1' : b1 < wr.heap.size := Nat.lt_of_lt_of_le hb1 KW.out.size
      have hb2' : b2 < wr.heap.size := Nat.lt_of_lt_of_le hb2 KW.out.size
      have HS : Hid (∀ W, Kept wr W → _) := fun W (kk : Kept wr W) => sameT W r.t r.v q.v (TxA.on (TxA.on (Deep.get HDA.out hr) KW.out) kk) (by rw [hrq]; exact TxA.on (TxA.on (Deep.get HDB.out hq) KW.out) kk) (HOP.out _ (List.mem_map.2 ⟨r, List.mem_of_getElem? hr, rfl⟩))
      clear hr hq hrq hb1 hb2 hk
      go_wp2_with fail
      go_cut [6] from 12 to 28 (fun s6 wx => s6 = .bool true ∧ Kept wr wx)
      case first =>
        go_region_with (go_at_call 9; refine Calls.mono (HS.out _ (by (repeat (first | exact Same.refl _ _ | apply Same.drew | apply Same.drewN)); done)) ?_; rintro e w2 ⟨rfl, k2⟩)
        all_goals
          go_wp2_with fail
          go_meet
          exact ⟨rfl, by (repeat (first | exact Same.refl _ _ | apply Same.drew | refine Same.trans' ?_ k2)); done⟩
      case rest =>
        obtain ⟨rfl, hkc⟩ := hcut
        have KC : Hid (Kept w wc) := KW.out.trans' hkc
        clear hkc
        go_wp2_with fail
        go_roundw
        case rel => exact ⟨k + 1, by congr 1, hkn, KC.out⟩
        case measure => simp only [intOf]; omega
    · obtain rfl : k = n := by omega
      have d1 : decide ((k : Int) < (k : Int)) = false := decide_eq_false (by omega)
      clear hk hkn
      go_wp2_with fail
      go_ret
      exact ⟨rfl, KW.out⟩
end Go.Proofs.YtlldgibpajbabaaDoor
