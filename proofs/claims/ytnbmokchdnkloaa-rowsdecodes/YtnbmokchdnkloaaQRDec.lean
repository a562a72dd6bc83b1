/- What is proved: the document's Decode answers what a list of bytes says, for every list; the bounds that a machine's memory sets. -/
import Derived.Test.YtnbmokchdnkloaaQOpen
import Derived.Test.YtnbmokchdnkloaaRRefS
namespace Go.Proofs.Ytnbmokchdnkloaa
open Go.RowKit

def tailP (k : Int) : List Nat → List Int → Pg RwM
  | [], xs => .ask (.tx 0 512) fun f => .ret ⟨k, xs.getD 0 0, xs.getD 1 0, xs.getD 2 0, xs.getD 3 0, xs.getD 4 0, strOfNums f.2⟩
  | m :: ms, xs => .ask (.nm m) fun a => tailP k ms (xs ++ [(a.1 : Int)])
def ms5 : List Nat := [1099511627776, 1048575, 4095, 1099511627776, 1099511627776]
theorem tailP_all (k : Int) : tailP k ms5 [] = pgR k := rfl
def most5 : Array Value := #[.int .i64 1099511627776, .int .i64 1048575, .int .i64 4095, .int .i64 1099511627776, .int .i64 1099511627776]
def f5 (xs : List Int) : Array Value := ((xs ++ List.replicate (5 - xs.length) 0).map (Value.int .i64)).toArray
theorem f5_set (xs : List Int) (x : Int) (h : xs.length < 5) : (f5 xs).setIfInBounds xs.length (.int .i64 x) = f5 (xs ++ [x]) := by
  unfold f5
  rw [List.setIfInBounds_toArray]
  congr 1
  rw [show 5 - xs.length = (5 - (xs.length + 1)) + 1 by omega, List.replicate_succ, List.map_append, List.map_cons, List.set_append_right _ _ (by simp), List.length_map, Nat.sub_self, List.set_cons_zero]
  simp
theorem f5_get (xs : List Int) (j : Nat) (h : j < 5) (hx : xs.length ≤ 5) : (f5 xs)[j]? = some (.int .i64 (xs.getD j 0)) := by
  unfold f5
  rw [List.getElem?_toArray, List.getElem?_map]
  by_cases hj : j < xs.length
  · rw [List.getElem?_append_left hj]
    simp [List.getD, List.getElem?_eq_getElem hj]
  · rw [List.getElem?_append_right (by omega), List.getElem?_replicate, if_pos (by omega)]
    simp [List.getD, List.getElem?_eq_none (by omega : xs.length ≤ j)]
theorem most5_get (j m : Nat) (h : ms5[j]? = some m) : most5[j]? = some (.int .i64 (m : Int)) := by
  match j, h with
  | 0, h => cases h; rfl
  | 1, h => cases h; rfl
  | 2, h => cases h; rfl
  | 3, h => cases h; rfl
  | 4, h => cases h; rfl
  | n + 5, h => simp [ms5] at h
/-- What stands while the document reads. -/
structure Dq (w wr : World) (mb : Nat) (oa : Option Addr) (c : Nat) (l : List Int) (q : Nat) (xs : List Int) : Prop where
  kept : Kept w wr
  b0 : wr.heap[w.heap.size]? = some (.cells zrow 26 (0, 0))
  rc : RC wr (w.heap.size + 1) oa c l q 0
  b2 : wr.heap[mb]? = some (.cells most5 47 (0, 0))
  b3 : wr.heap[mb + 1]? = some (.cells (f5 xs) 47 (0, 0))
  inb : ∀ k, InB oa l.length k → k < w.heap.size
  lt : w.heap.size + 1 < mb
section
variable {w wr : World} {mb : Nat} {oa : Option Addr} {c : Nat} {l : List Int} {q : Nat} {xs : List Int}
theorem Dq.step (h : Dq w wr mb oa c l q xs) {w1 : World} {q' : Nat} (s : Same (fun k => k = w.heap.size + 1) wr w1) (u : RC w1 (w.heap.size + 1) oa c l q' 0) : Dq w w1 mb oa c l q' xs := by
  have hl := h.lt
  exact ⟨h.kept.trans s (fun i hi e => by omega), (s.block _ (lt_of_heap h.b0) (by omega)).trans h.b0, u, (s.block _ (lt_of_heap h.b2) (by omega)).trans h.b2, (s.block _ (lt_of_heap h.b3) (by omega)).trans h.b3, h.inb, h.lt⟩
theorem Dq.put (h : Dq w wr mb oa c l q xs) (x : Int) (hx : xs.length < 5) : Dq w (wr.setCell ⟨mb + 1, xs.length, none⟩ (.int .i64 x)) mb oa c l q (xs ++ [x]) := by
  have hl := h.lt
  have s : Same (fun k => k = mb + 1) wr (wr.setCell ⟨mb + 1, xs.length, none⟩ (.int .i64 x)) := Same.setCell (S := fun k => k = mb + 1) (Same.refl _ wr) _ (.inr rfl) _
  exact ⟨h.kept.trans s (fun i hi e => by omega), (s.block _ (lt_of_heap h.b0) (by omega)).trans h.b0, h.rc.kept s (by omega) (fun k hk => by have := h.inb k hk; omega), (s.block _ (lt_of_heap h.b2) (by omega)).trans h.b2, (setCell_at h.b3 _ _).trans (by rw [f5_set _ _ hx]), h.inb, h.lt⟩
end
/-- What a reading step of the document answers and leaves. -/
def StP (w : World) (rb : Nat) (oa : Option Addr) (c : Nat) (l : List Int) (q : Nat) (m : Nat) (e : Ending) (w' : World) : Prop :=
  Same (fun k => k = rb) w w' ∧ match rd (.nm m) (l.drop q) with
    | .error z => e = .returned (.tuple #[.int .i64 0, .slice none 0 0, .int .i64 z]) ∧ RC w' rb oa c l q z
    | .ok (x, n) => e = .returned (.tuple #[.int .i64 (x.1 : Int), .slice none 0 0, .int .i64 0]) ∧ RC w' rb oa c l (q + n) 0
theorem stepN {w : World} {rb : Nat} {oa : Option Addr} {c : Nat} {l : List Int} {q : Nat} (h : RC w rb oa c l q 0) (m : Nat) : Calls Try.prog 34 #[.pointer (some ⟨rb, 0, none⟩), .int .i64 2, .int .i64 0, .int .i64 (m : Int)] w (StP w rb oa c l q m) := by
  refine Calls.mono (step_num h 0 (m : Int)) ?_
  rintro e w' ⟨rfl, u, s⟩
  rw [rNum_rd9] at u ⊢
  refine ⟨s, ?_⟩
  cases hr : rd (.nm m) (l.drop q) with
  | error z =>
    rw [hr] at u
    exact ⟨rfl, u⟩
  | ok x =>
    obtain ⟨x, n⟩ := x
    rw [hr] at u
    exact ⟨rfl, u⟩
def StT (w : World) (rb : Nat) (oa : Option Addr) (c : Nat) (l : List Int) (q : Nat) (e : Ending) (w' : World) : Prop :=
  Same (fun k => k = rb) w w' ∧ match rd (.tx 0 512) (l.drop q) with
    | .error z => ∃ a n c', e = .returned (.tuple #[.int .i64 0, .slice a n c', .int .i64 z]) ∧ RC w' rb oa c l q z
    | .ok (x, n) => ∃ g off c', e = .returned (.tuple #[.int .i64 0, .slice (some ⟨g, off, none⟩) x.2.length c', .int .i64 0]) ∧ BytesAt w' (some ⟨g, off, none⟩) x.2 ∧ g ≠ rb ∧ RC w' rb oa c l (q + n) 0
theorem stepT {w : World} {rb : Nat} {oa : Option Addr} {c : Nat} {l : List Int} {q : Nat} (h : RC w rb oa c l q 0) : Calls Try.prog 34 #[.pointer (some ⟨rb, 0, none⟩), .int .i64 3, .int .i64 0, .int .i64 512] w (StT w rb oa c l q) := by
  refine Calls.mono (step_text h 0 512) ?_
  rintro e w' ⟨a', c', rfl, hb, hg, hs, u, s⟩
  have er := rText_rd9 l q 0 512 h.ple
  rw [show ((0 : Nat) : Int) = 0 from rfl, show ((512 : Nat) : Int) = 512 from rfl] at er
  rw [er] at hb hs u ⊢
  refine ⟨s, ?_⟩
  cases hr : rd (.tx 0 512) (l.drop q) with
  | error z =>
    rw [hr] at u
    exact ⟨_, _, _, rfl, u⟩
  | ok x =>
    obtain ⟨x, n⟩ := x
    rw [hr] at hb hs u
    obtain ⟨g, off, rfl⟩ := hs rfl
    exact ⟨g, off, c', rfl, hb, hg g off rfl, u⟩
end Go.Proofs.Ytnbmokchdnkloaa
