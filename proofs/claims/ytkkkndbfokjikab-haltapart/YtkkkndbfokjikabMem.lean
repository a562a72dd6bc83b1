/- What is proved: small laws on a tree of stops as it lies in memory (its blocks, what a store into one of them leaves); no condition. -/
import Derived.Test.YtkkkndbfokjikabSlow
import Derived.Test.YtkkkndbfokjikabModel
namespace Go.Proofs.Ytkkkndbfokjikab
open Go.Conc Go.RowKit

/-- Nothing that was there has turned but the blocks of S. -/
structure Same (S : Nat → Prop) (w w' : World) : Prop where
  os : w'.os = w.os
  tape : w'.tape = w.tape
  output : w'.output = w.output
  size : w.heap.size ≤ w'.heap.size
  block : ∀ k, k < w.heap.size → ¬ S k → w'.heap[k]? = w.heap[k]?

theorem Same.refl (S : Nat → Prop) (w : World) : Same S w w := ⟨rfl, rfl, rfl, Nat.le_refl _, fun _ _ _ => rfl⟩
theorem Same.mono {S S' : Nat → Prop} {w w' : World} (h : Same S w w') (hs : ∀ k, k < w.heap.size → S k → S' k) : Same S' w w' :=
  ⟨h.os, h.tape, h.output, h.size, fun k hk hn => h.block k hk fun hk' => hn (hs k hk hk')⟩
/-- Two steps: the second may besides touch what the first has made. -/
theorem Same.trans {S S' : Nat → Prop} {a b c : World} (h : Same S a b) (k : Same S' b c) (hs : ∀ i, i < a.heap.size → S' i → S i) : Same S a c :=
  ⟨k.os.trans h.os, k.tape.trans h.tape, k.output.trans h.output, Nat.le_trans h.size k.size,
    fun i hi hn => (k.block i (Nat.lt_of_lt_of_le hi h.size) fun h' => hn (hs i hi h')).trans (h.block i hi hn)⟩
theorem Same.trans' {S : Nat → Prop} {a b c : World} (h : Same S a b) (k : Same S b c) : Same S a c := h.trans k fun _ _ h => h
theorem Same.drew {S : Nat → Prop} {w w' : World} (h : Same S w w') : Same S w w'.drew := ⟨h.os, h.tape, h.output, h.size, h.block⟩
theorem Same.alloc {S : Nat → Prop} {w w' : World} (h : Same S w w') (o : Obj) : Same S w (w'.alloc o) :=
  h.trans' ⟨rfl, rfl, rfl, by simp, fun k hk _ => Below.heap_alloc _ _ _ hk⟩
theorem Same.setCell {S : Nat → Prop} {w w' : World} (h : Same S w w') (p : Addr) (hp : w.heap.size ≤ p.block ∨ S p.block) (u : Value) : Same S w (w'.setCell p u) :=
  ⟨h.os, h.tape, h.output, by simpa [World.setCell] using h.size, fun k hk hn => by
    rw [Below.heap_setCell _ _ _ _ (fun e => by subst e; rcases hp with hp | hp; · omega
                                                · exact hn hp)]
    exact h.block k hk hn⟩
theorem Same.below {S : Nat → Prop} {B : Nat} {w w' : World} (h : Same S w w') (hB : B ≤ w.heap.size) (hs : ∀ k, S k → B ≤ k) : Below B w w' :=
  ⟨h.os, h.tape, h.output, h.size, fun k hk => h.block k (by omega) fun h' => by have := hs k h'; omega⟩
theorem Same.of_below {w w' : World} (h : Below w.heap.size w w') (S : Nat → Prop) : Same S w w' := ⟨h.os, h.tape, h.output, h.size, fun k hk _ => h.block k hk⟩

/-! blocks -/
theorem cell_of {w : World} {b : Nat} {arr : Array Value} {ty : TypeId} (h : w.heap[b]? = some (.cells arr ty (0, 0))) (o : Nat) : w.cell? ⟨b, o, none⟩ = arr[o]? := by
  simp [World.cell?, h]
theorem frozen_of {w : World} {b : Nat} {arr : Array Value} {ty : TypeId} (h : w.heap[b]? = some (.cells arr ty (0, 0))) (o : Nat) : w.frozen? ⟨b, o, none⟩ = false := by
  simp [World.frozen?, h]
theorem setCell_at {w : World} {b : Nat} {arr : Array Value} {ty : TypeId} {fz : Nat × Nat} (h : w.heap[b]? = some (.cells arr ty fz)) (o : Nat) (u : Value) : (w.setCell ⟨b, o, none⟩ u).heap[b]? = some (.cells (arr.setIfInBounds o u) ty fz) := by
  simp [World.setCell, Array.getElem?_modify, h]

/-- A stop's block. -/
def stopObj (tb : Nat) (pp : Option Nat) (left cause : Int) (ch : Nat) : Obj :=
  .cells #[.pointer (some ⟨tb, 0, none⟩), .pointer (pp.map fun p => ⟨p, 0, none⟩), .int .i64 left, .int .i64 cause, .chan (some ch), .int .u32 (if cause = 0 then 0 else 1), .int .i32 0, .int .u32 0] 63 (0, 0)
/-- A tree's block: the lock's word, the slice of the stops. -/
def treeObj (m : Int) (sv : Value) : Obj := .cells #[.int .i32 m, .int .u32 0, sv] 53 (0, 0)
/-- A stop's channel: closed where the stop is stopped. -/
def chanObj (cause : Int) : Obj := .chan 0 #[] (!(cause == 0)) 0 0 false

/-- A tree of stops: its block, its slice, how many; each stop's block, channel, parent's number, beats left, cause. -/
structure Tr where
  tb : Nat
  sv : Value
  n : Nat
  blk : Nat → Nat
  ch : Nat → Nat
  par : Nat → Option Nat
  left : Nat → Int
  cause : Nat → Int

def ptrs (blk : Nat → Nat) (n : Nat) : List Value := (List.range n).map fun i => .pointer (some ⟨blk i, 0, none⟩)
theorem length_ptrs (blk : Nat → Nat) (n : Nat) : (ptrs blk n).length = n := by simp [ptrs]
theorem ptrs_get (blk : Nat → Nat) (n i : Nat) (h : i < n) : (ptrs blk n)[i]? = some (.pointer (some ⟨blk i, 0, none⟩)) := by simp [ptrs, h]
theorem ptrs_succ (blk : Nat → Nat) (n : Nat) : ptrs blk (n + 1) = ptrs blk n ++ [.pointer (some ⟨blk n, 0, none⟩)] := by simp [ptrs, List.range_succ]
theorem ptrs_congr {blk blk' : Nat → Nat} {n : Nat} (h : ∀ i, i < n → blk i = blk' i) : ptrs blk n = ptrs blk' n := by
  simp only [ptrs]
  exact List.map_congr_left fun i hi => by rw [h i (List.mem_range.1 hi)]

/-- Tree T lies in world w, the lock's word being m. -/
structure Holds (m : Int) (w : World) (T : Tr) : Prop where
  tree : w.heap[T.tb]? = some (treeObj m T.sv)
  row : w.ownsRow 0 24 1 T.sv T.n (ptrs T.blk T.n)
  stop : ∀ i, i < T.n → w.heap[T.blk i]? = some (stopObj T.tb ((T.par i).map T.blk) (T.left i) (T.cause i) (T.ch i))
  chan : ∀ i, i < T.n → w.heap[T.ch i]? = some (chanObj (T.cause i))
  par : ∀ i p, i < T.n → T.par i = some p → p < i
  bi : ∀ i j, i < T.n → j < T.n → T.blk i = T.blk j → i = j
  ci : ∀ i j, i < T.n → j < T.n → T.ch i = T.ch j → i = j

/-- The blocks of a tree. -/
def Foot (T : Tr) (k : Nat) : Prop := k = T.tb ∨ T.sv.ownBlock = some k ∨ ∃ i, i < T.n ∧ (k = T.blk i ∨ k = T.ch i)

theorem lt_of_heap {w : World} {k : Nat} {o : Obj} (h : w.heap[k]? = some o) : k < w.heap.size := (Array.getElem?_eq_some_iff.1 h).1

theorem Holds.lt {m : Int} {w : World} {T : Tr} (h : Holds m w T) {k : Nat} (hk : Foot T k) : k < w.heap.size := by
  rcases hk with rfl | hk | ⟨i, hi, rfl | rfl⟩
  · exact lt_of_heap h.tree
  · exact (h.row.lt k hk).2
  · exact lt_of_heap (h.stop i hi)
  · exact lt_of_heap (h.chan i hi)

theorem row_kept {w w' : World} {v : Value} {n : Nat} {xs : List Value} {base : Nat} {e : TypeId} {size : Nat} (h : w.ownsRow base e size v n xs) (hg : ∀ k, v.ownBlock = some k → w'.heap[k]? = w.heap[k]?) : w'.ownsRow base e size v n xs := by
  refine ⟨h.1, ?_⟩
  rcases h.2 with hn | ⟨g, cap, cur, rfl, hb, hgg, rest⟩
  · exact .inl hn
  · exact .inr ⟨g, cap, cur, rfl, hb, (hg g rfl).trans hgg, rest⟩

theorem row_block {w : World} {v : Value} {n : Nat} {xs : List Value} {base : Nat} {e : TypeId} {size : Nat} (h : w.ownsRow base e size v n xs) {k : Nat} (hk : v.ownBlock = some k) : ∃ cur, w.heap[k]? = some (.cells cur e (0, 0)) := by
  rcases h.2 with ⟨rfl, _⟩ | ⟨g, cap, cur, rfl, _, hgg, _⟩
  · simp [Value.ownBlock] at hk
  · simp only [Value.ownBlock, Option.some.injEq] at hk
    subst hk
    exact ⟨cur, hgg⟩

/-- What touches none of its blocks leaves a tree as it was. -/
theorem Holds.kept {m : Int} {S : Nat → Prop} {w w' : World} {T : Tr} (h : Holds m w T) (hs : Same S w w') (hd : ∀ k, Foot T k → ¬ S k) : Holds m w' T where
  tree := (hs.block _ (h.lt (.inl rfl)) (hd _ (.inl rfl))).trans h.tree
  row := row_kept h.row fun k hk => hs.block k (h.lt (.inr (.inl hk))) (hd k (.inr (.inl hk)))
  stop i hi := (hs.block _ (h.lt (.inr (.inr ⟨i, hi, .inl rfl⟩))) (hd _ (.inr (.inr ⟨i, hi, .inl rfl⟩)))).trans (h.stop i hi)
  chan i hi := (hs.block _ (h.lt (.inr (.inr ⟨i, hi, .inr rfl⟩))) (hd _ (.inr (.inr ⟨i, hi, .inr rfl⟩)))).trans (h.chan i hi)
  par := h.par
  bi := h.bi
  ci := h.ci

/-! the blocks of a tree are of different kinds -/
theorem Holds.row_ne_tb {m : Int} {w : World} {T : Tr} (h : Holds m w T) : T.sv.ownBlock ≠ some T.tb := by
  intro hk
  obtain ⟨cur, hc⟩ := row_block h.row hk
  rw [h.tree] at hc
  simp [treeObj] at hc
theorem Holds.row_ne_blk {m : Int} {w : World} {T : Tr} (h : Holds m w T) {i : Nat} (hi : i < T.n) : T.sv.ownBlock ≠ some (T.blk i) := by
  intro hk
  obtain ⟨cur, hc⟩ := row_block h.row hk
  rw [h.stop i hi] at hc
  simp [stopObj] at hc
theorem Holds.row_ne_ch {m : Int} {w : World} {T : Tr} (h : Holds m w T) {i : Nat} (hi : i < T.n) : T.sv.ownBlock ≠ some (T.ch i) := by
  intro hk
  obtain ⟨cur, hc⟩ := row_block h.row hk
  rw [h.chan i hi] at hc
  simp [chanObj] at hc
theorem Holds.blk_ne_tb {m : Int} {w : World} {T : Tr} (h : Holds m w T) {i : Nat} (hi : i < T.n) : T.blk i ≠ T.tb := by
  intro e
  have := h.stop i hi
  rw [e, h.tree] at this
  simp [stopObj, treeObj] at this
theorem Holds.ch_ne_tb {m : Int} {w : World} {T : Tr} (h : Holds m w T) {i : Nat} (hi : i < T.n) : T.ch i ≠ T.tb := by
  intro e
  have := h.chan i hi
  rw [e, h.tree] at this
  simp [chanObj, treeObj] at this
theorem Holds.ch_ne_blk {m : Int} {w : World} {T : Tr} (h : Holds m w T) {i j : Nat} (hi : i < T.n) (hj : j < T.n) : T.ch i ≠ T.blk j := by
  intro e
  have := h.chan i hi
  rw [e, h.stop j hj] at this
  simp [chanObj, stopObj] at this

/-- A stop's block and channel are turned, nothing else. -/
theorem Holds.turn {m : Int} {w w' : World} {T : Tr} (h : Holds m w T) {i : Nat} (hi : i < T.n) (l c : Int) (hs : Same (fun k => k = T.blk i ∨ k = T.ch i) w w')
    (hb : w'.heap[T.blk i]? = some (stopObj T.tb ((T.par i).map T.blk) l c (T.ch i))) (hc : w'.heap[T.ch i]? = some (chanObj c)) :
    Holds m w' { T with left := upd T.left i l, cause := upd T.cause i c } where
  tree := (hs.block _ (h.lt (.inl rfl)) (fun o => o.elim (fun e => h.blk_ne_tb hi e.symm) (fun e => h.ch_ne_tb hi e.symm))).trans h.tree
  row := row_kept h.row fun k hk => hs.block k (h.row.lt k hk).2 (fun o => o.elim (fun e => h.row_ne_blk hi (e ▸ hk)) (fun e => h.row_ne_ch hi (e ▸ hk)))
  stop j hj := by
    by_cases e : j = i
    · subst e
      simpa only [upd_same] using hb
    · simp only [upd_other _ _ e]
      refine (hs.block _ (lt_of_heap (h.stop j hj)) ?_).trans (h.stop j hj)
      rintro (e' | e')
      · exact e (h.bi j i hj hi e')
      · exact h.ch_ne_blk hi hj e'.symm
  chan j hj := by
    by_cases e : j = i
    · subst e
      simpa only [upd_same] using hc
    · simp only [upd_other _ _ e]
      refine (hs.block _ (lt_of_heap (h.chan j hj)) ?_).trans (h.chan j hj)
      rintro (e' | e')
      · exact h.ch_ne_blk hj hi e'
      · exact e (h.ci j i hj hi e')
  par := h.par
  bi := h.bi
  ci := h.ci

/-- The lock's word is turned. -/
theorem Holds.lock {m : Int} {w : World} {T : Tr} (h : Holds m w T) (m' : Int) : Holds m' (w.setCell ⟨T.tb, 0, none⟩ (.int .i32 m')) T where
  tree := by rw [setCell_at h.tree]; simp [treeObj]
  row := row_kept h.row fun k hk => Below.heap_setCell _ _ _ _ (fun e => by subst e; exact h.row_ne_tb hk)
  stop i hi := (Below.heap_setCell _ _ _ _ (h.blk_ne_tb hi)).trans (h.stop i hi)
  chan i hi := (Below.heap_setCell _ _ _ _ (h.ch_ne_tb hi)).trans (h.chan i hi)
  par := h.par
  bi := h.bi
  ci := h.ci
theorem same_lock (w : World) (T : Tr) (u : Value) : Same (Foot T) w (w.setCell ⟨T.tb, 0, none⟩ u) := (Same.refl _ w).setCell _ (.inr (.inl rfl)) _

theorem foot_turn (T : Tr) (l c : Nat → Int) (k : Nat) : Foot { T with left := l, cause := c } k ↔ Foot T k := Iff.rfl
end Go.Proofs.Ytkkkndbfokjikab
