/- What is proved: plain facts on what RecordFields lays into memory; no condition. -/
import Derived.Test.YtcmoejnljhmflabRMemA
namespace Go.Proofs.Ytcmoejnljhmflab
open Go.RowKit

theorem OwnO.txan {base : Nat} {w : World} {t : TxM} {a : Option Addr} {n cap : Nat} (e : n = t.ops.length) (o : OwnO base w (.slice a n cap) t.ops) : TxA w t (txV t (.slice a n cap)) := by
  subst e
  exact OwnO.txa o
theorem Same.stay {S : Nat → Prop} {w w1 : World} {b : Nat} {o : Obj} (hs : Same S w w1) (h : w.heap[b]? = some o) (hn : ¬ S b) : w1.heap[b]? = some o := (hs.block _ (lt_of_heap h) hn).trans h
/-- A row of one operation, of one's own. -/
theorem own_op {w : World} {g base : Nat} (o : OpM) (h : w.heap[g]? = some (.cells #[.int .i64 o.kind, .string o.key, .bool o.found, .string o.value] 24 (0, 0))) (hb : base ≤ g) : OwnO base w (.slice (some ⟨g, 0, none⟩) 1 1) [o] :=
  ⟨rfl, .inr ⟨g, 1, _, rfl, hb, h, Nat.le_refl _, by decide, rfl, rfl⟩⟩
theorem OwnO.argt {base : Nat} {w : World} {t : TxM} {a : Option Addr} {c : Nat} (o : OwnO base w (.slice a t.ops.length c) t.ops) (hl : t.ops.length ≤ 17) : ArgT w t a c := by
  obtain ⟨a', c', e, ho, h1, h2, -⟩ := OwnO.ops o
  simp only [Value.slice.injEq, true_and] at e
  obtain ⟨rfl, rfl⟩ := e
  exact ⟨ho, h2, by unfold reachBytes; omega⟩
/-- What the switch leaves: a transaction t in the variable's block X. -/
def Lies (w : World) (X : Nat) (t : TxM) (wx : World) : Prop := t.ops.length ≤ 17 ∧ Kept w wx ∧ ∃ a c, wx.heap[X]? = some (.cells #[.int .i64 t.f0, .int .i64 t.f1, .int .i64 t.f2, .int .i64 t.f3, .int .i64 t.f4, .int .i64 t.f5, .int .i64 t.f6, .slice a t.ops.length c] 27 (0, 0)) ∧ OwnO w.heap.size wx (.slice a t.ops.length c) t.ops
def op0 : OpM := ⟨1, ⟨#[107]⟩, true, ⟨#[118]⟩⟩
/-- What stands ahead of the switch. -/
def Begun (w W : World) (Y : Nat) : Prop := w.heap.size ≤ Y ∧ Kept w W ∧ W.heap[Y + 1]? = some (.cells #[.int .i64 1, .int .i64 1, .int .i64 1, .int .i64 1, .int .i64 1, .int .i64 1, .int .i64 1, .slice (some ⟨Y, 0, none⟩) 1 1] 27 (0, 0)) ∧ W.heap[Y]? = some (.cells #[.int .i64 1, .string ⟨#[107]⟩, .bool true, .string ⟨#[118]⟩] 24 (0, 0))
theorem Begun.num {w W : World} {Y : Nat} (h : Begun w W Y) (k : Nat) (u : Value) (t : TxM) (ht : t.ops = [op0]) (hc : #[.int .i64 1, .int .i64 1, .int .i64 1, .int .i64 1, .int .i64 1, .int .i64 1, .int .i64 1, .slice (some ⟨Y, 0, none⟩) 1 1].setIfInBounds k u = #[.int .i64 t.f0, .int .i64 t.f1, .int .i64 t.f2, .int .i64 t.f3, .int .i64 t.f4, .int .i64 t.f5, .int .i64 t.f6, .slice (some ⟨Y, 0, none⟩) 1 1]) : Lies w (Y + 1) t (W.setCell ⟨Y + 1, k, none⟩ u) := by
  obtain ⟨h0, hk, hx, hr⟩ := h
  have hs : Same (fun b => b = Y + 1) W (W.setCell ⟨Y + 1, k, none⟩ u) := Same.setCell (S := fun b => b = Y + 1) (Same.refl _ W) _ (.inr rfl) _
  have hn : t.ops.length = 1 := by rw [ht]; rfl
  refine ⟨by omega, hk.trans hs (fun i hi e => by omega), some ⟨Y, 0, none⟩, 1, ?_, ?_⟩
  · rw [hn, ← hc]
    exact setCell_at hx k u
  · rw [hn, ht]
    exact own_op op0 (hs.stay hr (by omega)) h0
theorem Begun.row {w W W' : World} {Y : Nat} (h : Begun w W Y) (o : OpM) (hs : Same (fun b => b = Y) W W') (hr : W'.heap[Y]? = some (.cells #[.int .i64 o.kind, .string o.key, .bool o.found, .string o.value] 24 (0, 0))) : Lies w (Y + 1) ⟨1, 1, 1, 1, 1, 1, 1, [o]⟩ W' := by
  obtain ⟨h0, hk, hx, -⟩ := h
  exact ⟨by show 1 ≤ 17; decide, hk.trans hs (fun i hi e => by omega), some ⟨Y, 0, none⟩, 1, hs.stay hx (by omega), own_op o hr h0⟩
theorem Begun.row1 {w W : World} {Y : Nat} (h : Begun w W Y) (k : Nat) (u : Value) (o : OpM) (hc : #[.int .i64 1, .string ⟨#[107]⟩, .bool true, .string ⟨#[118]⟩].setIfInBounds k u = #[.int .i64 o.kind, .string o.key, .bool o.found, .string o.value]) : Lies w (Y + 1) ⟨1, 1, 1, 1, 1, 1, 1, [o]⟩ (W.setCell ⟨Y, k, none⟩ u).drew := by
  refine Begun.row h o (Same.setCell (S := fun b => b = Y) (Same.refl _ W) ⟨Y, k, none⟩ (.inr rfl) u).drew ?_
  rw [← hc]
  exact setCell_at h.2.2.2 k u
/-- The row's length, as the variable has it. -/
def lenAt (w : World) (X : Nat) : Nat := match w.cell? ⟨X, 7, none⟩ with
  | some (.slice _ n _) => n
  | _ => 0
theorem lenAt_of {w : World} {X : Nat} {a : Option Addr} {n c : Nat} (h : w.cell? ⟨X, 7, none⟩ = some (.slice a n c)) : lenAt w X = n := by unfold lenAt; rw [h]
def op3 : OpM := ⟨3, ⟨#[107]⟩, false, ⟨#[]⟩⟩
def grownT (j : Nat) : TxM := ⟨1, 1, 1, 1, 1, 1, 1, op0 :: List.replicate j op3⟩
theorem grownT_len (j : Nat) : (grownT j).ops.length = j + 1 := by simp [grownT]
theorem grownT_next (j : Nat) : (grownT j).ops ++ [op3] = (grownT (j + 1)).ops := by simp [grownT, List.replicate_succ']
/-- What stands at the head of the loop of appends. -/
def Grow (w : World) (X : Nat) (j : Nat) (wr : World) : Prop := w.heap.size ≤ X ∧ Kept w wr ∧ ∃ a c, wr.heap[X]? = some (.cells #[.int .i64 1, .int .i64 1, .int .i64 1, .int .i64 1, .int .i64 1, .int .i64 1, .int .i64 1, .slice a (j + 1) c] 27 (0, 0)) ∧ OwnO w.heap.size wr (.slice a (j + 1) c) (grownT j).ops ∧ ∀ k, (Value.slice a (j + 1) c).ownBlock = some k → k ≠ X
theorem ne_next {Y k : Nat} (h : Y = k) : k ≠ Y + 1 := by omega
theorem Begun.grow {w W : World} {Y : Nat} (h : Begun w W Y) : Grow w (Y + 1) 0 W := ⟨Nat.le_succ_of_le h.1, h.2.1, some ⟨Y, 0, none⟩, 1, h.2.2.1, own_op op0 h.2.2.2 h.1, fun k e => ne_next (Y := Y) (by simpa [Value.ownBlock] using e)⟩
theorem Grow.lies {w : World} {X j : Nat} {wr : World} (h : Grow w X j wr) (hj : j ≤ 16) : Lies w X (grownT j) wr := by
  obtain ⟨-, hk, a, c, hx, ho, -⟩ := h
  refine ⟨by rw [grownT_len]; omega, hk, a, c, ?_, ?_⟩
  · rw [grownT_len]
    exact hx
  · rw [grownT_len]
    exact ho
theorem Grow.next {w : World} {X j : Nat} {wr w' : World} {a a' : Option Addr} {c c' : Nat} (h0 : w.heap.size ≤ X) (hk : Kept w wr) (hx : wr.heap[X]? = some (.cells #[.int .i64 1, .int .i64 1, .int .i64 1, .int .i64 1, .int .i64 1, .int .i64 1, .int .i64 1, .slice a (j + 1) c] 27 (0, 0))) (ho : OwnO w.heap.size wr (.slice a (j + 1) c) (grownT j).ops) (hb : ∀ k, (Value.slice a (j + 1) c).ownBlock = some k → k ≠ X)
    (o' : OwnO w.heap.size w' (.slice a' (j + 1 + 1) c') ((grownT j).ops ++ [op3])) (s' : Same (fun k => (Value.slice a (j + 1) c).ownBlock = some k) wr w') (n' : ∀ k, (Value.slice a' (j + 1 + 1) c').ownBlock = some k → (Value.slice a (j + 1) c).ownBlock = some k ∨ wr.heap.size ≤ k) : Grow w X (j + 1) (w'.setCell ⟨X, 7, none⟩ (.slice a' (j + 1 + 1) c')) ∧ lenAt (w'.setCell ⟨X, 7, none⟩ (.slice a' (j + 1 + 1) c')) X = j + 2 := by
  have hlt := lt_of_heap hx
  have hs : Same (fun b => b = X) w' (w'.setCell ⟨X, 7, none⟩ (.slice a' (j + 1 + 1) c')) := Same.setCell (S := fun b => b = X) (Same.refl _ w') _ (.inr rfl) _
  have hx2 : (w'.setCell ⟨X, 7, none⟩ (.slice a' (j + 1 + 1) c')).heap[X]? = some (.cells #[.int .i64 1, .int .i64 1, .int .i64 1, .int .i64 1, .int .i64 1, .int .i64 1, .int .i64 1, .slice a' (j + 1 + 1) c'] 27 (0, 0)) := (setCell_at (s'.stay hx (fun e => hb X e rfl)) 7 _).trans (by simp)
  have hne : ∀ k, (Value.slice a' (j + 1 + 1) c').ownBlock = some k → k ≠ X := fun k e => by
    rcases n' k e with e1 | e1
    · exact hb k e1
    · omega
  rw [grownT_next] at o'
  refine ⟨⟨h0, Same.trans (Same.trans hk s' (fun i hi e => ?_)) hs (fun i hi e => by omega), a', c', hx2, OwnO.kept o' hs (fun k e e2 => hne k e e2), hne⟩, lenAt_of (tx_obj hx2).1.2.2.2.2.2.2.2⟩
  have := (OwnO.block ho e).1
  omega
end Go.Proofs.Ytcmoejnljhmflab
