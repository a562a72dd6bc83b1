/- What is proved: a heap of places in memory, and what changing two of its items and looking for the least of an item and those below it do; the places lie in the list. -/
import Derived.Test.YtcbllejjiokmbaaNEnv
import Derived.BigRegion
namespace Go.Proofs.Ytcbllejjiokmbaa
open Go.RowKit

def ins (L : List Nat) : List Value := L.map fun (n : Nat) => Value.int .i64 (n : Int)
theorem length_ins (L : List Nat) : (ins L).length = L.length := by simp [ins]
theorem ins_append (a b : List Nat) : ins (a ++ b) = ins a ++ ins b := by simp [ins]
theorem ins_set (L : List Nat) (i x : Nat) : ins (L.set i x) = (ins L).set i (.int .i64 (x : Int)) := by simp [ins, List.map_set]
theorem ins_get {L : List Nat} {i : Nat} (h : i < L.length) : (ins L)[i]? = some (.int .i64 ((L.getD i 0 : Nat) : Int)) := by
  rw [ins, List.getElem?_map, List.getElem?_eq_getElem h, getD_at h]; rfl
theorem ins_one (L : List Nat) : ∀ v ∈ ins L, v.oneCell' = true := by
  intro v hv
  obtain ⟨x, _, rfl⟩ := List.mem_map.1 hv
  rfl
/-- The value v is a list of the places L of one's own, in a block from base on. -/
abbrev OwnI (base : Nat) (w : World) (v : Value) (L : List Nat) : Prop := w.ownsRow base 3 1 v L.length (ins L)
theorem OwnI.nil (base : Nat) (w : World) : OwnI base w (.slice none 0 0) [] := World.ownsRow_nil w base 3 1
theorem OwnI.shape {base : Nat} {w : World} {v : Value} {L : List Nat} (h : OwnI base w v L) (h0 : 0 < L.length) : ∃ g cap, v = .slice (some ⟨g, 0, none⟩) L.length cap ∧ base ≤ g ∧ L.length ≤ cap := by
  rcases h.2 with ⟨rfl, hn⟩ | ⟨g, cap, cur, rfl, hb, hg, h1, h2, h3, h4⟩
  · omega
  · exact ⟨g, cap, rfl, hb, h1⟩
theorem OwnI.len {base : Nat} {w : World} {v : Value} {L : List Nat} (h : OwnI base w v L) : ∃ a cap, v = .slice a L.length cap := by
  rcases h.2 with ⟨rfl, hn⟩ | ⟨g, cap, cur, rfl, hb, hg, h1, h2, h3, h4⟩
  · exact ⟨none, 0, by rw [hn]⟩
  · exact ⟨_, cap, rfl⟩
theorem OwnI.parts {base : Nat} {w : World} {g n cap : Nat} {L : List Nat} (h : OwnI base w (.slice (some ⟨g, 0, none⟩) n cap) L) : n = L.length ∧ ∃ cur, base ≤ g ∧ w.heap[g]? = some (.cells cur 3 (0, 0)) ∧ L.length ≤ cap ∧ cap ≤ maxLen ∧ cur.size = cap * 1 ∧ cur.toList.take (L.length * 1) = ins L := by
  rcases h.2 with ⟨h', _⟩ | ⟨g', cap', cur, h', hb, hg, h1, h2, h3, h4⟩
  · cases h'
  · simp only [Value.slice.injEq, Option.some.injEq, Addr.mk.injEq, and_true] at h'
    obtain ⟨rfl, rfl, rfl⟩ := h'
    exact ⟨rfl, cur, hb, hg, h1, h2, h3, h4⟩
theorem OwnI.at {base : Nat} {w : World} {g n cap : Nat} {L : List Nat} (h : OwnI base w (.slice (some ⟨g, 0, none⟩) n cap) L) {i : Nat} (hi : i < L.length) :
    w.cell? ⟨g, i, none⟩ = some (.int .i64 ((L.getD i 0 : Nat) : Int)) ∧ w.frozen? ⟨g, i, none⟩ = false ∧ g < w.heap.size := by
  obtain ⟨-, cur, hb, hg, h1, h2, h3, h4⟩ := h.parts
  refine ⟨?_, frozen_of hg _, lt_of_heap hg⟩
  rw [cell_of hg, ← ins_get hi, ← h4, List.getElem?_take_of_lt (by omega)]
  simp
theorem OwnI.set {base : Nat} {w : World} {g n cap : Nat} {L : List Nat} (h : OwnI base w (.slice (some ⟨g, 0, none⟩) n cap) L) (i x : Nat) : OwnI base (w.setCell ⟨g, i, none⟩ (.int .i64 (x : Int))) (.slice (some ⟨g, 0, none⟩) n cap) (L.set i x) := by
  obtain ⟨rfl, cur, hb, hg, h1, h2, h3, h4⟩ := h.parts
  refine ⟨by rw [length_ins]; simp, .inr ⟨g, cap, _, by rw [List.length_set], hb, setCell_at hg _ _, by rw [List.length_set]; exact h1, h2, by simpa using h3, ?_⟩⟩
  rw [List.length_set]
  simp only [Array.toList_setIfInBounds, List.take_set]
  rw [h4, ins_set]
theorem OwnI.cut {base : Nat} {w : World} {g n cap : Nat} {L : List Nat} (h : OwnI base w (.slice (some ⟨g, 0, none⟩) n cap) L) {m : Nat} (hm : m ≤ L.length) : OwnI base w (.slice (some ⟨g, 0, none⟩) m cap) (L.take m) := by
  obtain ⟨rfl, cur, hb, hg, h1, h2, h3, h4⟩ := h.parts
  have e : (L.take m).length = m := by rw [List.length_take]; omega
  refine ⟨by rw [length_ins]; simp, .inr ⟨g, cap, cur, by rw [e], hb, hg, by rw [e]; omega, h2, h3, ?_⟩⟩
  rw [e, show ins (L.take m) = (ins L).take m by simp [ins, List.map_take], ← h4, List.take_take]
  congr 1
  omega
theorem OwnI.kept {S : Nat → Prop} {base : Nat} {w w' : World} {v : Value} {L : List Nat} (h : OwnI base w v L) (hs : Same S w w') (hn : ∀ k, v.ownBlock = some k → ¬ S k) : OwnI base w' v L := by
  refine ⟨h.1, ?_⟩
  rcases h.2 with h2 | ⟨g, cap, cur, rfl, hb, hg, h1, h2, h3, h4⟩
  · exact .inl h2
  · exact .inr ⟨g, cap, cur, rfl, hb, (hs.block g (lt_of_heap hg) (hn g (by simp [Value.ownBlock]))).trans hg, h1, h2, h3, h4⟩

/-- The heap in block B holds the places L; its closure reads the boxes ob and lb. -/
structure Hm (B : Nat) (w : World) (ob lb : Nat) (v : Value) (L : List Nat) : Prop where
  obj : w.heap[B]? = some (.cells #[v, .func (.func 62) #[] #[.pointer (some ⟨ob, 0, none⟩), .pointer (some ⟨lb, 0, none⟩)]] 103 (0, 0))
  own : OwnI (B + 1) w v L
theorem Hm.on {B : Nat} {w w' : World} {ob lb : Nat} {v : Value} {L : List Nat} (h : Hm B w ob lb v L) (k : Kept w w') : Hm B w' ob lb v L :=
  ⟨(k.block _ (lt_of_heap h.obj) (fun e => e)).trans h.obj, h.own.kept k (fun _ _ e => e)⟩
theorem Hm.cells {B : Nat} {w : World} {ob lb : Nat} {v : Value} {L : List Nat} (h : Hm B w ob lb v L) : w.cell? ⟨B, 0, none⟩ = some v ∧ w.cell? ⟨B, 1, none⟩ = some (.func (.func 62) #[] #[.pointer (some ⟨ob, 0, none⟩), .pointer (some ⟨lb, 0, none⟩)]) ∧ w.frozen? ⟨B, 0, none⟩ = false ∧ B < w.heap.size :=
  ⟨(cell_of h.obj 0).trans rfl, (cell_of h.obj 1).trans rfl, frozen_of h.obj 0, lt_of_heap h.obj⟩
set_option maxRecDepth 100000 in
set_option maxHeartbeats 1600000 in
theorem swap10 {B : Nat} {w : World} {ob lb : Nat} {v : Value} {L : List Nat} (h : Hm B w ob lb v L) {i j : Nat} (hi : i < L.length) (hj : j < L.length) :
    Calls Try.prog 69 #[.pointer (some ⟨B, 0, none⟩), .int .i64 i, .int .i64 j] w fun e w' => e = .returned (.tuple #[]) ∧ Hm B w' ob lb v (swp L i j) ∧ Same (fun k => v.ownBlock = some k) w w' := by
  obtain ⟨g, cap, rfl, hg, hcap⟩ := h.own.shape (by omega)
  obtain ⟨ci, fi, hgl⟩ := h.own.at hi
  obtain ⟨cj, fj, -⟩ := h.own.at hj
  obtain ⟨c0, -, -, hB⟩ := h.cells
  have H : Hid _ := h
  have hne : B ≠ g := by omega
  obtain ⟨n, en⟩ : ∃ n, n = L.length := ⟨_, rfl⟩
  rw [← en] at c0
  have hi2 : (i : Int) < (n : Int) := by omega
  have hj2 : (j : Int) < (n : Int) := by omega
  have W1 : Hid (∀ W, W = (w.setCell ⟨g, i, none⟩ (.int .i64 ((L.getD j 0 : Nat) : Int))).setCell ⟨g, j, none⟩ (.int .i64 ((L.getD i 0 : Nat) : Int)) → Hm B W ob lb (.slice (some ⟨g, 0, none⟩) L.length cap) (swp L i j) ∧ Same (fun k => some g = some k) w W) := by
    show ∀ W, _
    rintro W rfl
    have hs : Same (fun k => some g = some k) w ((w.setCell ⟨g, i, none⟩ (.int .i64 ((L.getD j 0 : Nat) : Int))).setCell ⟨g, j, none⟩ (.int .i64 ((L.getD i 0 : Nat) : Int))) := ((Same.refl (fun k => some g = some k) w).setCell ⟨g, i, none⟩ (.inr rfl) _).setCell ⟨g, j, none⟩ (.inr rfl) _
    exact ⟨⟨(hs.block _ hB (fun e => by cases e; omega)).trans h.obj, (h.own.set i _).set j _⟩, hs⟩
  obtain ⟨cz, fz, -⟩ := (h.own.set i (L.getD j 0)).at (i := j) (by rw [List.length_set]; exact hj)
  have EN : Hid _ := en
  clear h hg hcap en
  generalize (L.set i (L.getD j 0)).getD j 0 = z at *
  generalize L.getD i 0 = x at *
  generalize L.getD j 0 = y at *
  go_enter Try.func69, Try.ntmps69
  go_wp2_with fail
  go_region
  all_goals (go_wp2_with fail)
  all_goals go_end0
  all_goals (refine ⟨rfl, ?_⟩)
  all_goals (have k := W1.out _ rfl; first | exact k | exact ⟨k.1.on (Same.refl _ _).drew, k.2.drew⟩ | trace_state)
end Go.Proofs.Ytcbllejjiokmbaa
