/- What is proved: small laws on worlds of which only some blocks have turned, and on rows of bytes and of faults in memory; no condition. -/
import Derived.Test.YtbhihmkgimdjpaaDoorRows
import Derived.KernelRfl
import Derived.WalkKit
import Derived.Laws.NewBlocks
import Derived.Deep.OwnRows
import Derived.Laws.CopyOwn
import Derived.Maps.AppendAt
import Derived.BigQuiet
import Derived.Deep.QuietTactic
namespace Go.Proofs.YtbhihmkgimdjpaaDoor
open Go.RowKit

/-- Nothing that was there has turned but the blocks of S. -/
structure Same (S : Nat → Prop) (w w' : World) : Prop where
  os : w'.os = w.os
  tape : w'.tape = w.tape
  output : w'.output = w.output
  size : w.heap.size ≤ w'.heap.size
  block : ∀ k, k < w.heap.size → ¬ S k → w'.heap[k]? = w.heap[k]?

theorem Same.refl (S : Nat → Prop) (w : World) : Same S w w := ⟨rfl, rfl, rfl, Nat.le_refl _, fun _ _ _ => rfl⟩
theorem Same.mono {S S' : Nat → Prop} {w w' : World} (h : Same S w w') (hs : ∀ k, k < w.heap.size → S k → S' k) : Same S' w w' :=
  ⟨h.os, h.tape, h.output, h.size, fun k hk hn => h.block k hk fun hk' => hn (hs k hk hk')⟩
theorem Same.trans {S S' : Nat → Prop} {a b c : World} (h : Same S a b) (k : Same S' b c) (hs : ∀ i, i < a.heap.size → S' i → S i) : Same S a c :=
  ⟨k.os.trans h.os, k.tape.trans h.tape, k.output.trans h.output, Nat.le_trans h.size k.size,
    fun i hi hn => (k.block i (Nat.lt_of_lt_of_le hi h.size) fun h' => hn (hs i hi h')).trans (h.block i hi hn)⟩
theorem Same.trans' {S : Nat → Prop} {a b c : World} (h : Same S a b) (k : Same S b c) : Same S a c := h.trans k fun _ _ h => h
theorem Same.drew {S : Nat → Prop} {w w' : World} (h : Same S w w') : Same S w w'.drew := ⟨h.os, h.tape, h.output, h.size, h.block⟩
theorem Same.drewN {S : Nat → Prop} {w w' : World} (h : Same S w w') (n : Nat) : Same S w (w'.drewN n) := ⟨h.os, h.tape, h.output, h.size, h.block⟩
theorem Same.alloc {S : Nat → Prop} {w w' : World} (h : Same S w w') (o : Obj) : Same S w (w'.alloc o) :=
  h.trans' ⟨rfl, rfl, rfl, by simp, fun k hk _ => Below.heap_alloc _ _ _ hk⟩
theorem Same.setCell {S : Nat → Prop} {w w' : World} (h : Same S w w') (p : Addr) (hp : w.heap.size ≤ p.block ∨ S p.block) (u : Value) : Same S w (w'.setCell p u) :=
  ⟨h.os, h.tape, h.output, by simpa [World.setCell] using h.size, fun k hk hn => by
    rw [Below.heap_setCell _ _ _ _ (fun e => by subst e; rcases hp with hp | hp; · omega
                                                · exact hn hp)]
    exact h.block k hk hn⟩
theorem Same.below {S : Nat → Prop} {B : Nat} {w w' : World} (h : Same S w w') (hB : B ≤ w.heap.size) (hs : ∀ k, S k → B ≤ k) : Below B w w' :=
  ⟨h.os, h.tape, h.output, h.size, fun k hk => h.block k (by omega) fun h' => by have := hs k h'; omega⟩
theorem Same.of_below {w w' : World} (h : Below w.heap.size w w') (S : Nat → Prop) : Same S w w' := ⟨h.os, h.tape, h.output, h.size, fun k hk _ => h.block k hk⟩
theorem Same.of_grown {w w' : World} {r : Option Nat} (h : w.grownBy w' r) {S : Nat → Prop} (hs : ∀ k, r = some k → S k) : Same S w w' :=
  ⟨h.os, h.tape, h.output, h.size, fun k hk hn => h.block k hk fun e => hn (hs k e.symm)⟩
/-- Nothing that was there has turned. -/
abbrev Kept (w w' : World) : Prop := Same (fun _ => False) w w'
theorem Kept.to {w w' : World} (h : Kept w w') (S : Nat → Prop) : Same S w w' := h.mono fun _ _ f => f.elim

theorem heap_new (w : World) (o : Obj) : (w.alloc o).heap[w.heap.size]? = some o := by
  show (w.heap.push o)[w.heap.size]? = _
  rw [Array.getElem?_push, if_pos rfl]
theorem heap_old (w : World) (o : Obj) {k : Nat} (h : k < w.heap.size) : (w.alloc o).heap[k]? = w.heap[k]? := Below.heap_alloc _ _ _ h
theorem lt_of_heap {w : World} {k : Nat} {o : Obj} (h : w.heap[k]? = some o) : k < w.heap.size := (Array.getElem?_eq_some_iff.1 h).1
theorem cell_of {w : World} {b : Nat} {arr : Array Value} {ty : TypeId} (h : w.heap[b]? = some (.cells arr ty (0, 0))) (o : Nat) : w.cell? ⟨b, o, none⟩ = arr[o]? := by
  simp [World.cell?, h]
theorem frozen_of {w : World} {b : Nat} {arr : Array Value} {ty : TypeId} (h : w.heap[b]? = some (.cells arr ty (0, 0))) (o : Nat) : w.frozen? ⟨b, o, none⟩ = false := by
  simp [World.frozen?, h]
theorem setCell_at {w : World} {b : Nat} {arr : Array Value} {ty : TypeId} {fz : Nat × Nat} (h : w.heap[b]? = some (.cells arr ty fz)) (o : Nat) (u : Value) : (w.setCell ⟨b, o, none⟩ u).heap[b]? = some (.cells (arr.setIfInBounds o u) ty fz) := by
  simp [World.setCell, Array.getElem?_modify, h]
theorem Same.cell {S : Nat → Prop} {w w' : World} (h : Same S w w') {p : Addr} (hp : p.block < w.heap.size) (hn : ¬ S p.block) : w'.cell? p = w.cell? p := by
  unfold World.cell?
  rw [h.block p.block hp hn]

/-! rows of bytes, rows of faults -/
def byt (l : List Int) : List Value := l.map (Value.int .u8)
theorem length_byt (l : List Int) : (byt l).length = l.length := by simp [byt]
theorem byt_get (l : List Int) (i : Nat) : (byt l)[i]? = l[i]?.map (Value.int .u8) := by simp [byt]
theorem byt_one (l : List Int) : ∀ v ∈ byt l, v.oneCell' = true := by
  intro v hv
  obtain ⟨x, _, rfl⟩ := List.mem_map.1 hv
  rfl
theorem byt_append (a b : List Int) : byt (a ++ b) = byt a ++ byt b := by simp [byt]

/-- A fault. -/
structure Fl where
  k : Int
  b : Int
  n : Int
  p : Int
def fcs (l : List Fl) : List Value := l.flatMap fun f => [.int .i64 f.k, .int .i64 f.b, .int .i64 f.n, .int .i64 f.p]
theorem length_fcs (l : List Fl) : (fcs l).length = l.length * 4 := by
  induction l with
  | nil => rfl
  | cons a r ih => simp only [fcs, List.flatMap_cons, List.length_append, List.length_cons, List.length_nil] at *; omega
theorem fcs_cons (a : Fl) (r : List Fl) : fcs (a :: r) = [.int .i64 a.k, .int .i64 a.b, .int .i64 a.n, .int .i64 a.p] ++ fcs r := rfl
theorem fcs_append (a b : List Fl) : fcs (a ++ b) = fcs a ++ fcs b := by simp [fcs]
theorem fcs_get {l : List Fl} {i : Nat} {f : Fl} (h : l[i]? = some f) : (fcs l)[i * 4]? = some (.int .i64 f.k) ∧ (fcs l)[i * 4 + 1]? = some (.int .i64 f.b) ∧ (fcs l)[i * 4 + 2]? = some (.int .i64 f.n) ∧ (fcs l)[i * 4 + 3]? = some (.int .i64 f.p) := by
  induction l generalizing i with
  | nil => simp at h
  | cons a r ih =>
    cases i with
    | zero =>
      simp only [List.getElem?_cons_zero, Option.some.injEq] at h
      subst h
      simp [fcs]
    | succ i =>
      simp only [List.getElem?_cons_succ] at h
      obtain ⟨h0, h1, h2, h3⟩ := ih h
      have e : ∀ j, (fcs (a :: r))[(i + 1) * 4 + j]? = (fcs r)[i * 4 + j]? := fun j => by
        rw [fcs_cons, List.getElem?_append_right (by simp; omega)]
        congr 1
        simp; omega
      exact ⟨(e 0).trans h0, (e 1).trans h1, (e 2).trans h2, (e 3).trans h3⟩
theorem fcs_one (l : List Fl) : ∀ v ∈ fcs l, v.oneCell' = true := by
  intro v hv
  obtain ⟨f, _, hf⟩ := List.mem_flatMap.1 hv
  simp only [List.mem_cons, List.not_mem_nil, or_false] at hf
  rcases hf with rfl | rfl | rfl | rfl <;> rfl

/-- The bytes l lie in w from address a on. -/
def BytesAt (w : World) (a : Option Addr) (l : List Int) : Prop :=
  ∀ i x, l[i]? = some x → ∃ b off, a = some ⟨b, off, none⟩ ∧ b < w.heap.size ∧ w.cell? ⟨b, off + i, none⟩ = some (.int .u8 x)
/-- The faults l lie in w from address a on. -/
def FaultsAt (w : World) (a : Option Addr) (l : List Fl) : Prop :=
  ∀ i f, l[i]? = some f → ∃ b off, a = some ⟨b, off, none⟩ ∧ b < w.heap.size ∧ w.cell? ⟨b, off + i * 4, none⟩ = some (.int .i64 f.k) ∧ w.cell? ⟨b, off + i * 4 + 1, none⟩ = some (.int .i64 f.b) ∧
    w.cell? ⟨b, off + i * 4 + 2, none⟩ = some (.int .i64 f.n) ∧ w.cell? ⟨b, off + i * 4 + 3, none⟩ = some (.int .i64 f.p)
/-- Block b is the one that n elements at address a lie in. -/
def InB (a : Option Addr) (n b : Nat) : Prop := 0 < n ∧ ∃ off, a = some ⟨b, off, none⟩

theorem BytesAt.nil (w : World) (a : Option Addr) : BytesAt w a [] := fun i x h => by simp at h
theorem FaultsAt.nil (w : World) (a : Option Addr) : FaultsAt w a [] := fun i x h => by simp at h
theorem pos_of_get {α : Type} {l : List α} {i : Nat} {x : α} (h : l[i]? = some x) : 0 < l.length := by
  have := (List.getElem?_eq_some_iff.1 h).1; omega
theorem BytesAt.kept {S : Nat → Prop} {w w' : World} {a : Option Addr} {l : List Int} (h : BytesAt w a l) (hs : Same S w w') (hd : ∀ k, InB a l.length k → ¬ S k) : BytesAt w' a l := fun i x hx => by
  obtain ⟨b, off, rfl, hb, hc⟩ := h i x hx
  exact ⟨b, off, rfl, Nat.lt_of_lt_of_le hb hs.size, (hs.cell (p := ⟨b, off + i, none⟩) hb (hd b ⟨pos_of_get hx, off, rfl⟩)).trans hc⟩
theorem FaultsAt.kept {S : Nat → Prop} {w w' : World} {a : Option Addr} {l : List Fl} (h : FaultsAt w a l) (hs : Same S w w') (hd : ∀ k, InB a l.length k → ¬ S k) : FaultsAt w' a l := fun i x hx => by
  obtain ⟨b, off, rfl, hb, c0, c1, c2, c3⟩ := h i x hx
  have hk := hd b ⟨pos_of_get hx, off, rfl⟩
  exact ⟨b, off, rfl, Nat.lt_of_lt_of_le hb hs.size, (hs.cell (p := ⟨b, _, none⟩) hb hk).trans c0, (hs.cell (p := ⟨b, _, none⟩) hb hk).trans c1, (hs.cell (p := ⟨b, _, none⟩) hb hk).trans c2, (hs.cell (p := ⟨b, _, none⟩) hb hk).trans c3⟩
theorem BytesAt.lt {w : World} {a : Option Addr} {l : List Int} (h : BytesAt w a l) {k : Nat} (hk : InB a l.length k) : k < w.heap.size := by
  obtain ⟨h0, off, rfl⟩ := hk
  obtain ⟨b, off', e, hb, _⟩ := h 0 l[0] (List.getElem?_eq_getElem h0)
  cases e
  exact hb
theorem FaultsAt.lt {w : World} {a : Option Addr} {l : List Fl} (h : FaultsAt w a l) {k : Nat} (hk : InB a l.length k) : k < w.heap.size := by
  obtain ⟨h0, off, rfl⟩ := hk
  obtain ⟨b, off', e, hb, _⟩ := h 0 l[0] (List.getElem?_eq_getElem h0)
  cases e
  exact hb
/-- A row that is owned, of bytes. -/
theorem BytesAt.of_row {w : World} {base : Nat} {e : TypeId} {v : Value} {n : Nat} {l : List Int} (h : w.ownsRow base e 1 v n (byt l)) : ∃ a cap, v = .slice a l.length cap ∧ BytesAt w a l ∧ ∀ k, InB a l.length k → base ≤ k := by
  have hl := h.1
  rw [length_byt, Nat.mul_one] at hl
  rcases h.2 with ⟨rfl, hn⟩ | ⟨g, cap, cur, rfl, hb, hg, h1, h2, h3, h4⟩
  · have : l = [] := List.eq_nil_of_length_eq_zero (by omega)
    subst this
    exact ⟨none, 0, rfl, BytesAt.nil _ _, fun k hk => absurd hk.1 (by simp)⟩
  · refine ⟨_, cap, by rw [hl], fun i x hx => ⟨g, 0, rfl, lt_of_heap hg, ?_⟩, fun k hk => by obtain ⟨_, off, e⟩ := hk; cases e; exact hb⟩
    have hi := (List.getElem?_eq_some_iff.1 hx).1
    rw [cell_of hg, Nat.zero_add]
    have : (cur.toList.take (n * 1))[i]? = some (.int .u8 x) := by rw [h4, byt_get, hx]; rfl
    rw [List.getElem?_take_of_lt (by omega)] at this
    simpa using this
theorem FaultsAt.of_row {w : World} {base : Nat} {e : TypeId} {v : Value} {n : Nat} {l : List Fl} (h : w.ownsRow base e 4 v n (fcs l)) : ∃ a cap, v = .slice a l.length cap ∧ FaultsAt w a l ∧ ∀ k, InB a l.length k → base ≤ k := by
  have hl := h.1
  rw [length_fcs] at hl
  have hl' : l.length = n := by omega
  rcases h.2 with ⟨rfl, hn⟩ | ⟨g, cap, cur, rfl, hb, hg, h1, h2, h3, h4⟩
  · have : l = [] := List.eq_nil_of_length_eq_zero (by omega)
    subst this
    exact ⟨none, 0, rfl, FaultsAt.nil _ _, fun k hk => absurd hk.1 (by simp)⟩
  · refine ⟨_, cap, by rw [hl'], fun i x hx => ⟨g, 0, rfl, lt_of_heap hg, ?_⟩, fun k hk => by obtain ⟨_, off, e⟩ := hk; cases e; exact hb⟩
    have hi := (List.getElem?_eq_some_iff.1 hx).1
    obtain ⟨c0, c1, c2, c3⟩ := fcs_get hx
    have hget : ∀ o, o < n * 4 → w.cell? ⟨g, 0 + o, none⟩ = (fcs l)[o]? := fun o ho => by
      rw [cell_of hg, Nat.zero_add, ← h4, List.getElem?_take_of_lt ho]; simp
    simp only [Nat.zero_add] at hget ⊢
    exact ⟨(hget _ (by omega)).trans c0, (hget _ (by omega)).trans c1, (hget _ (by omega)).trans c2, (hget _ (by omega)).trans c3⟩
end Go.Proofs.YtbhihmkgimdjpaaDoor
