/- What is proved: the document's own tree (the reference) in memory: New and Has of it; what was there turns nowhere but in the tree's blocks. -/
import Derived.Test.YtkkkndbfokjikabListT
import Derived.Deep.RegionHeld3
import Derived.BigQuiet
import Derived.Deep.QuietTactic
namespace Go.Proofs.Ytkkkndbfokjikab
open Go.Conc Go.RowKit

/-- A parent's number as the reference has it. -/
def pz : Option Nat → Int
  | none => -1
  | some p => p
theorem pz_some (p : Nat) : pz (some p) = (p : Int) := rfl

/-- The reference's tree lies in world w: its block rb, its list's block g. -/
structure RefH (w : World) (rb g cap n : Nat) (par : Nat → Option Nat) (left cause : Nat → Int) : Prop where
  tree : w.heap[rb]? = some (.cells #[.slice (some ⟨g, 0, none⟩) n cap] 31 (0, 0))
  cur : ∃ cur, w.heap[g]? = some (.cells cur 40 (0, 0)) ∧ n ≤ cap ∧ cap ≤ maxLen ∧ cur.size = cap * 3 ∧
    ∀ i, i < n → cur[i * 3]? = some (.int .i64 (pz (par i))) ∧ cur[i * 3 + 1]? = some (.int .i64 (left i)) ∧ cur[i * 3 + 2]? = some (.int .i64 (cause i))

theorem RefH.rcell {w : World} {rb g cap n : Nat} {par : Nat → Option Nat} {left cause : Nat → Int} (h : RefH w rb g cap n par left cause) : w.cell? ⟨rb, 0, none⟩ = some (.slice (some ⟨g, 0, none⟩) n cap) ∧ w.frozen? ⟨rb, 0, none⟩ = false :=
  ⟨(cell_of h.tree 0).trans rfl, frozen_of h.tree 0⟩
theorem RefH.cells {w : World} {rb g cap n : Nat} {par : Nat → Option Nat} {left cause : Nat → Int} (h : RefH w rb g cap n par left cause) {i : Nat} (hi : i < n) :
    w.cell? ⟨g, i * 3, none⟩ = some (.int .i64 (pz (par i))) ∧ w.cell? ⟨g, i * 3 + 1, none⟩ = some (.int .i64 (left i)) ∧ w.cell? ⟨g, i * 3 + 2, none⟩ = some (.int .i64 (cause i)) ∧
      w.frozen? ⟨g, i * 3 + 1, none⟩ = false ∧ w.frozen? ⟨g, i * 3 + 2, none⟩ = false := by
  obtain ⟨cur, hg, _, _, _, hc⟩ := h.cur
  obtain ⟨h0, h1, h2⟩ := hc i hi
  exact ⟨(cell_of hg _).trans h0, (cell_of hg _).trans h1, (cell_of hg _).trans h2, frozen_of hg _, frozen_of hg _⟩
theorem RefH.bd {w : World} {rb g cap n : Nat} {par : Nat → Option Nat} {left cause : Nat → Int} (h : RefH w rb g cap n par left cause) : n ≤ cap ∧ cap ≤ maxLen := by
  obtain ⟨cur, _, h1, h2, _⟩ := h.cur
  exact ⟨h1, h2⟩
theorem RefH.ne {w : World} {rb g cap n : Nat} {par : Nat → Option Nat} {left cause : Nat → Int} (h : RefH w rb g cap n par left cause) : rb ≠ g := by
  obtain ⟨cur, hg, _⟩ := h.cur
  intro e
  subst e
  rw [h.tree] at hg
  simp at hg
theorem RefH.kept {S : Nat → Prop} {w w' : World} {rb g cap n : Nat} {par : Nat → Option Nat} {left cause : Nat → Int} (h : RefH w rb g cap n par left cause) (s : Same S w w') (h1 : ¬ S rb) (h2 : ¬ S g) : RefH w' rb g cap n par left cause where
  tree := (s.block _ (lt_of_heap h.tree) h1).trans h.tree
  cur := by
    obtain ⟨cur, hg, r⟩ := h.cur
    exact ⟨cur, (s.block _ (lt_of_heap hg) h2).trans hg, r⟩
theorem RefH.drew {w : World} {rb g cap n : Nat} {par : Nat → Option Nat} {left cause : Nat → Int} (h : RefH w rb g cap n par left cause) : RefH w.drew rb g cap n par left cause := ⟨h.tree, h.cur⟩

theorem idx3 {i j a b : Nat} (ha : a < 3) (hb : b < 3) (h : i * 3 + a = j * 3 + b) : i = j ∧ a = b := by omega
/-- A cause is stored. -/
theorem RefH.setCause {w : World} {rb g cap n : Nat} {par : Nat → Option Nat} {left cause : Nat → Int} (h : RefH w rb g cap n par left cause) {i : Nat} (hi : i < n) (c : Int) :
    RefH (w.setCell ⟨g, i * 3 + 2, none⟩ (.int .i64 c)) rb g cap n par left (upd cause i c) where
  tree := (Below.heap_setCell _ _ _ _ h.ne).trans h.tree
  cur := by
    obtain ⟨cur, hg, h1, h2, h3, hc⟩ := h.cur
    refine ⟨_, setCell_at hg _ _, h1, h2, by rw [Array.size_setIfInBounds]; exact h3, fun j hj => ?_⟩
    obtain ⟨c0, c1, c2⟩ := hc j hj
    have hb : i * 3 + 2 < cur.size := by rw [h3]; omega
    rw [Array.getElem?_setIfInBounds_ne (by omega), Array.getElem?_setIfInBounds_ne (by omega)]
    refine ⟨c0, c1, ?_⟩
    by_cases e : j = i
    · subst e; rw [Array.getElem?_setIfInBounds_self_of_lt hb, upd_same]
    · rw [Array.getElem?_setIfInBounds_ne (by omega), upd_other _ _ e]; exact c2
/-- A number of beats is stored. -/
theorem RefH.setLeft {w : World} {rb g cap n : Nat} {par : Nat → Option Nat} {left cause : Nat → Int} (h : RefH w rb g cap n par left cause) {i : Nat} (hi : i < n) (c : Int) :
    RefH (w.setCell ⟨g, i * 3 + 1, none⟩ (.int .i64 c)) rb g cap n par (upd left i c) cause where
  tree := (Below.heap_setCell _ _ _ _ h.ne).trans h.tree
  cur := by
    obtain ⟨cur, hg, h1, h2, h3, hc⟩ := h.cur
    refine ⟨_, setCell_at hg _ _, h1, h2, by rw [Array.size_setIfInBounds]; exact h3, fun j hj => ?_⟩
    obtain ⟨c0, c1, c2⟩ := hc j hj
    have hb : i * 3 + 1 < cur.size := by rw [h3]; omega
    rw [Array.getElem?_setIfInBounds_ne (by omega), Array.getElem?_setIfInBounds_ne (show i * 3 + 1 ≠ j * 3 + 2 by omega)]
    refine ⟨c0, ?_, c2⟩
    by_cases e : j = i
    · subst e; rw [Array.getElem?_setIfInBounds_self_of_lt hb, upd_same]
    · rw [Array.getElem?_setIfInBounds_ne (by omega), upd_other _ _ e]; exact c1
theorem same_ref (w : World) (rb g o : Nat) (u : Value) : Same (fun k => k = rb ∨ k = g) w (w.setCell ⟨g, o, none⟩ u) := (Same.refl _ w).setCell _ (.inr (.inr rfl)) _

set_option maxHeartbeats 400000 in
theorem rnew_no (rb : Nat) (b : Int) (w : World) (h : b < 0 ∨ 1099511627776 < b) : Calls Try.prog 6 #[.pointer (some ⟨rb, 0, none⟩), .int .i64 b] w fun e w' => e = .returned (.int .i64 10) ∧ w' = w := by
  have tests : (decide (b < 0) = false ∧ decide (1099511627776 < b) = true) ∨ decide (b < 0) = true := by simp only [decide_eq_false_iff_not, decide_eq_true_eq]; omega
  clear h
  rcases tests with ⟨t1, t2⟩ | t1
  all_goals
    go_enter Try.func6, Try.ntmps6
    go_wp2
    go_ret
    exact ⟨rfl, rfl⟩

set_option maxRecDepth 100000 in
set_option maxHeartbeats 400000 in
theorem rnew_yes (rb : Nat) (b : Int) (w : World) (h0 : 0 ≤ b) (h1 : b ≤ 1099511627776) (hr : w.heap[rb]? = some (.cells #[.slice none 0 0] 31 (0, 0))) :
    Calls Try.prog 6 #[.pointer (some ⟨rb, 0, none⟩), .int .i64 b] w fun e w' => e = .returned (.int .i64 0) ∧ RefH w' rb w.heap.size 1 1 (fun _ => none) (fun _ => b) (fun _ => 0) ∧ Same (fun k => k = rb) w w' := by
  have t1 : decide (b < 0) = false := by simp only [decide_eq_false_iff_not]; omega
  have t2 : decide (1099511627776 < b) = false := by simp only [decide_eq_false_iff_not]; omega
  have hlt := lt_of_heap hr
  have hr1 : (w.alloc (.cells #[.int .i64 (-1), .int .i64 b, .int .i64 0] 40)).heap[rb]? = some (.cells #[.slice none 0 0] 31 (0, 0)) := (Below.heap_alloc _ _ _ hlt).trans hr
  have c0 := (cell_of hr1 0).trans (show _ = some (Value.slice none 0 0) from rfl)
  have f0 := frozen_of hr1 0
  clear hr1 h0 h1
  go_enter Try.func6, Try.ntmps6
  go_wp2
  go_ret
  have hn := heap_alloc_new (w.setCell ⟨rb, 0, none⟩ (.slice (some ⟨w.heap.size, 0, none⟩) 1 1)) (.cells #[.int .i64 (-1), .int .i64 b, .int .i64 0] 40)
  rw [size_setCell] at hn
  refine ⟨rfl, ⟨(Below.heap_alloc _ _ _ (by rw [size_setCell]; exact hlt)).trans ((setCell_at hr 0 _).trans rfl), _, hn, Nat.le_refl _, by unfold maxLen; omega, rfl, fun i hi => ?_⟩, ((Same.refl (fun k => k = rb) w).setCell ⟨rb, 0, none⟩ (.inr rfl) _).alloc _⟩
  obtain rfl : i = 0 := by omega
  exact ⟨rfl, rfl, rfl⟩

set_option maxRecDepth 100000 in
set_option maxHeartbeats 400000 in
theorem rhas_yes {w : World} {rb g cap n : Nat} {par : Nat → Option Nat} {left cause : Nat → Int} (h : RefH w rb g cap n par left cause) (i : Nat) (hi : i < n) :
    Calls Try.prog 14 #[.pointer (some ⟨rb, 0, none⟩), .int .i64 i] w fun e w' => e = .returned (.bool true) ∧ w' = w := by
  obtain ⟨c0, f0⟩ := h.rcell
  have t1 : decide (0 ≤ (i : Int)) = true := by simp only [decide_eq_true_eq]; omega
  have t2 : decide ((i : Int) < (n : Int)) = true := by simp only [decide_eq_true_eq]; omega
  clear h
  go_enter Try.func14, Try.ntmps14
  go_wp2
  go_ret
  exact ⟨rfl, rfl⟩

set_option maxRecDepth 100000 in
set_option maxHeartbeats 400000 in
theorem rhas_no {w : World} {rb g cap n : Nat} {par : Nat → Option Nat} {left cause : Nat → Int} (h : RefH w rb g cap n par left cause) (i : Int) (hi : i < 0 ∨ (n : Int) ≤ i) :
    Calls Try.prog 14 #[.pointer (some ⟨rb, 0, none⟩), .int .i64 i] w fun e w' => e = .returned (.bool false) ∧ w' = w := by
  obtain ⟨c0, f0⟩ := h.rcell
  have tests : (decide (0 ≤ i) = true ∧ decide (i < (n : Int)) = false) ∨ decide (0 ≤ i) = false := by simp only [decide_eq_false_iff_not, decide_eq_true_eq]; omega
  clear h hi
  rcases tests with ⟨t1, t2⟩ | t1
  all_goals
    go_enter Try.func14, Try.ntmps14
    go_wp2
    go_ret
    exact ⟨rfl, rfl⟩
end Go.Proofs.Ytkkkndbfokjikab
