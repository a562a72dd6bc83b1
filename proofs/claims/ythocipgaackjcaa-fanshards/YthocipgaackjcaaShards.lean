/- What is proved: Shards cuts n places into k ranges as the document says, in a row of memory of its own, and refuses what the document refuses; no condition but that the arguments are ints. -/
import Derived.Test.YthocipgaackjcaaRows
import Derived.KernelRfl
import Derived.WalkKit
import Derived.Laws.NewBlocks
import Derived.Deep.OwnRows
namespace Go.Proofs.Ythocipgaackjcaa
open Go.RowKit

/-- The end of the ranges ahead of range i. -/
def bnd (n k i : Nat) : Nat := i * (n / k) + min i (n % k)
def shArr (n k i : Nat) : Array Value := Array.ofFn (n := k * 2) fun j => .int .i64 (if j.val / 2 < i then (bnd n k (j.val / 2 + j.val % 2) : Int) else 0)

theorem heap_new (w : World) (o : Obj) : (w.alloc o).heap[w.heap.size]? = some o := by
  show (w.heap.push o)[w.heap.size]? = _
  rw [Array.getElem?_push, if_pos rfl]

theorem Try.infoRange : (Try.prog.info? 42).map (fun i => (i.zero, i.size, i.bytes)) = some (some (.agg #[.int .i64 0, .int .i64 0]), 2, 16) := by kernel_rfl

theorem shArr_zero (n k : Nat) : madeCells #[.int .i64 0, .int .i64 0] (k * 2) = shArr n k 0 := by
  apply Array.ext
  · simp [madeCells, shArr]
  · intro j h1 h2
    simp only [madeCells, shArr, Array.getElem_map, Array.getElem_ofFn, Nat.not_lt_zero, if_false, Array.getElem_range]
    rcases Nat.mod_two_eq_zero_or_one j with h | h <;> simp [h]
theorem shArr_get (n k i j : Nat) : (shArr n k i)[j]? = if j < k * 2 then some (.int .i64 (if j / 2 < i then (bnd n k (j / 2 + j % 2) : Int) else 0)) else none := by
  simp only [shArr, Array.getElem?_ofFn]
  split <;> rfl
theorem shArr_step (n k i : Nat) (hi : i < k) : ((shArr n k i).setIfInBounds (i * 2) (.int .i64 (bnd n k i))).setIfInBounds (i * 2 + 1) (.int .i64 (bnd n k (i + 1))) = shArr n k (i + 1) := by
  apply Array.ext_getElem?
  intro j
  have hs : (shArr n k i).size = k * 2 := by simp [shArr]
  rw [Array.getElem?_setIfInBounds, Array.getElem?_setIfInBounds, shArr_get, shArr_get]
  simp only [Array.size_setIfInBounds, hs]
  by_cases e1 : i * 2 + 1 = j
  · subst e1
    have a1 : (i * 2 + 1) / 2 = i := by omega
    have a2 : (i * 2 + 1) % 2 = 1 := by omega
    rw [if_pos rfl, if_pos (by omega), if_pos (by omega), a1, a2, if_pos (by omega)]
  · rw [if_neg e1]
    by_cases e2 : i * 2 = j
    · subst e2
      have a1 : (i * 2) / 2 = i := by omega
      have a2 : (i * 2) % 2 = 0 := by omega
      rw [if_pos rfl, if_pos (by omega), if_pos (by omega), a1, a2, if_pos (by omega)]
      rfl
    · rw [if_neg e2]
      have : (j / 2 < i) = (j / 2 < i + 1) := by apply propext; constructor <;> intro _ <;> omega
      simp only [this]
theorem bnd_le (n k i : Nat) (hi : i ≤ k) : bnd n k i ≤ n := by
  unfold bnd
  have h1 : i * (n / k) ≤ k * (n / k) := Nat.mul_le_mul_right _ hi
  have h2 := Nat.div_add_mod n k
  have h3 : min i (n % k) ≤ n % k := Nat.min_le_right _ _
  omega
theorem bnd_all (n k : Nat) (hk : 0 < k) : bnd n k k = n := by
  unfold bnd
  have h2 := Nat.div_add_mod n k
  have h3 := Nat.mod_lt n hk
  rw [Nat.min_eq_right (by omega)]
  omega
theorem bnd_zero (n k : Nat) : bnd n k 0 = 0 := by simp [bnd]
theorem bnd_more (n k i : Nat) (h : i < n % k) : bnd n k (i + 1) = bnd n k i + n / k + 1 := by
  unfold bnd
  rw [Nat.succ_mul, Nat.min_eq_left (by omega), Nat.min_eq_left (by omega)]
  omega
theorem bnd_less (n k i : Nat) (h : ¬ i < n % k) : bnd n k (i + 1) = bnd n k i + n / k := by
  unfold bnd
  rw [Nat.succ_mul, Nat.min_eq_right (by omega), Nat.min_eq_right (by omega)]
  omega

set_option maxRecDepth 100000 in
theorem shards_no (n k : Int) (w : World) (h : n < 0 ∨ k < 1 ∨ 16 < k) :
    Calls Try.prog 21 #[.int .i64 n, .int .i64 k] w fun e w' => e = .returned (.tuple #[.slice none 0 0, .int .i64 23]) ∧ w' = w := by
  have hnot : ∀ (x : Bool) (w : World), (Op.unary .not (.bool x)).run Try.prog w = .ok (.bool (!x)) w := fun _ _ => rfl
  have tests : (decide (n < 0) = true) ∨ (decide (n < 0) = false ∧ decide (1 ≤ k) = false) ∨ (decide (n < 0) = false ∧ decide (1 ≤ k) = true ∧ decide (k ≤ 16) = false) := by
    simp only [decide_eq_false_iff_not, decide_eq_true_eq]; omega
  clear h
  rcases tests with t1 | ⟨t1, t2⟩ | ⟨t1, t2, t3⟩
  all_goals
    go_enter Try.func21, Try.ntmps21
    go_wp2
    go_ret2
    exact ⟨rfl, rfl⟩

set_option maxRecDepth 100000 in
set_option maxHeartbeats 1600000 in
theorem shards_yes (n k : Nat) (w : World) (hn : n ≤ 9223372036854775807) (hk1 : 1 ≤ k) (hk2 : k ≤ 16) :
    Calls Try.prog 21 #[.int .i64 n, .int .i64 k] w fun e w' => e = .returned (.tuple #[.slice (some ⟨w.heap.size, 0, none⟩) k k, .int .i64 0]) ∧ w'.heap[w.heap.size]? = some (.cells (shArr n k k) 42 (0, 0)) ∧ Below w.heap.size w w' := by
  have hnot : ∀ (x : Bool) (w : World), (Op.unary .not (.bool x)).run Try.prog w = .ok (.bool (!x)) w := fun _ _ => rfl
  obtain ⟨i0, hi0, hz0, hz1, hz2⟩ := info_parts Try.infoRange
  have t1 : decide ((n : Int) < 0) = false := by simp only [decide_eq_false_iff_not]; omega
  have t2 : decide (1 ≤ (k : Int)) = true := by simp only [decide_eq_true_eq]; omega
  have t3 : decide ((k : Int) ≤ 16) = true := by simp only [decide_eq_true_eq]; omega
  have hmk : (Instr.makeSlice 38 (.int .i64 (k : Int)) (.int .i64 (k : Int))).run Try.prog w = .ok (.slice (some ⟨w.heap.size, 0, none⟩) k k) (w.alloc (.cells (shArr n k 0) 42)) := by
    have hr := run_make (P := Try.prog) w 38 42 i0 _ Try.underlying38 hi0 hz0 .i64 .i64 k k (by omega) (Int.le_refl _) (by rw [hz2]; omega) (by omega)
    simp only [Int.toNat_natCast, hz1] at hr
    rw [hr, ← shArr_zero n k]
    rfl
  obtain ⟨q, eq⟩ : ∃ q, q = n / k := ⟨_, rfl⟩
  obtain ⟨r, er⟩ : ∃ r, r = n % k := ⟨_, rfl⟩
  have hq : (n : Int).tdiv (k : Int) = (q : Int) := by rw [eq]; rfl
  have hr : (n : Int).tmod (k : Int) = (r : Int) := by rw [er]; rfl
  have hk0 : ((k : Int) == 0) = false := by simp; omega
  have EQ : Hid _ := eq
  have ER : Hid _ := er
  clear eq er
  have hcells : ∀ (wr : World) (j : Nat), j < k → wr.heap[w.heap.size]? = some (.cells (shArr n k j) 42 (0, 0)) → wr.frozen? ⟨w.heap.size, j * 2, none⟩ = false ∧ wr.frozen? ⟨w.heap.size, j * 2 + 1, none⟩ = false ∧ (∃ u, wr.cell? ⟨w.heap.size, j * 2, none⟩ = some u) ∧ (∃ u, wr.cell? ⟨w.heap.size, j * 2 + 1, none⟩ = some u) := by
    intro wr j hj hb
    refine ⟨by simp [World.frozen?, hb], by simp [World.frozen?, hb], ?_, ?_⟩
    · exact ⟨_, by simp only [World.cell?, hb]; exact (shArr_get n k j (j * 2)).trans (if_pos (show j * 2 < k * 2 by omega))⟩
    · exact ⟨_, by simp only [World.cell?, hb]; exact (shArr_get n k j (j * 2 + 1)).trans (if_pos (show j * 2 + 1 < k * 2 by omega))⟩
  have HC : Hid _ := hcells
  clear hcells
  go_enter Try.func21, Try.ntmps21
  go_wp2
  go_loopw [7, 21] (fun f i wr => ∃ j : Nat, j ≤ k ∧ i = .int .i64 j ∧ f = .int .i64 (bnd n k j) ∧ wr.heap[w.heap.size]? = some (.cells (shArr n k j) 42 (0, 0)) ∧ Below w.heap.size w wr) (fun _ i _ => k - (intOf i).toNat)
  case atStart => exact ⟨0, Nat.zero_le _, rfl, by rw [bnd_zero]; rfl, heap_new _ _, (Below.refl _ _).alloc (Nat.le_refl _) _⟩
  case round =>
    obtain ⟨j, hj, rfl, rfl, hb, bb⟩ := hrel
    have l0 := bnd_le n k j hj
    by_cases hlt : j < k
    · have c1 : decide ((j : Int) < (k : Int)) = true := by simp only [decide_eq_true_eq]; omega
      have l1 := bnd_le n k (j + 1) hlt
      obtain ⟨f1, f2, ⟨u1, g1⟩, ⟨u2, g2⟩⟩ := HC.out wr j hlt hb
      have HB : Hid _ := hb
      clear hb
      obtain ⟨to, et⟩ : ∃ t, t = bnd n k (j + 1) := ⟨_, rfl⟩
      obtain ⟨fr, ef⟩ : ∃ t, t = bnd n k j := ⟨_, rfl⟩
      have hend : ∀ w', w' = (wr.setCell ⟨w.heap.size, j * 2, none⟩ (.int .i64 fr)).setCell ⟨w.heap.size, j * 2 + 1, none⟩ (.int .i64 to) → w'.heap[w.heap.size]? = some (.cells (shArr n k (j + 1)) 42 (0, 0)) ∧ Below w.heap.size w w' := by
        rintro w' rfl
        refine ⟨?_, (bb.setCell (Nat.le_refl _) _).setCell (Nat.le_refl _) _⟩
        rw [← shArr_step n k j hlt, ← et, ← ef]
        simp [World.setCell, Array.getElem?_modify, HB.out]
      have HE : Hid _ := hend
      rw [← ef] at l0
      rw [← et] at l1
      rw [← ef]
      clear hend
      by_cases hm : j < r
      · have c2 : decide ((j : Int) < (r : Int)) = true := by simp only [decide_eq_true_eq]; omega
        have c3 : (j : Int) < (r : Int) := by omega
        have st : to = fr + q + 1 := by rw [et, ef, EQ.out]; exact bnd_more n k j (by rw [← ER.out]; exact hm)
        have ET : Hid _ := et
        clear et ef
        go_wp2
        go_roundw
        case rel =>
          have e1 : ((fr : Int) + q + 1) = (to : Int) := by omega
          rw [e1]
          obtain ⟨h1, h2⟩ := HE.out _ rfl
          exact ⟨j + 1, hlt, by rw [Int.natCast_add]; rfl, by rw [ET.out], h1, h2⟩
        case measure => simp only [intOf]; omega
      · have c2 : decide ((j : Int) < (r : Int)) = false := by simp only [decide_eq_false_iff_not]; omega
        have c3 : ¬ (j : Int) < (r : Int) := by omega
        have st : to = fr + q := by rw [et, ef, EQ.out]; exact bnd_less n k j (by rw [← ER.out]; exact hm)
        have ET : Hid _ := et
        clear et ef
        go_wp2
        go_roundw
        case rel =>
          have e1 : ((fr : Int) + q) = (to : Int) := by omega
          rw [e1]
          obtain ⟨h1, h2⟩ := HE.out _ rfl
          exact ⟨j + 1, hlt, by rw [Int.natCast_add]; rfl, by rw [ET.out], h1, h2⟩
        case measure => simp only [intOf]; omega
    · have ej : j = k := by omega
      subst ej
      have c1 : decide ((j : Int) < (j : Int)) = false := by simp
      go_wp2
      go_ret2
      exact ⟨rfl, hb, bb⟩
end Go.Proofs.Ythocipgaackjcaa
