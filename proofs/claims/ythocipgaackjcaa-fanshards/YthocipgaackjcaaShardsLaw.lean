/- What is proved: FanShards returns true whatever its arguments, and leaves all that was there as it was; no condition but that the arguments are ints. -/
import Derived.Test.YthocipgaackjcaaShards
namespace Go.Proofs.Ythocipgaackjcaa.fanShards
open Go.RowKit

theorem lt_of_heap {w : World} {k : Nat} {o : Obj} (h : w.heap[k]? = some o) : k < w.heap.size := (Array.getElem?_eq_some_iff.1 h).1

theorem cells_of {w : World} {b n k : Nat} (hb : w.heap[b]? = some (.cells (shArr n k k) 42 (0, 0))) (j : Nat) (hj : j < k) :
    w.cell? ⟨b, j * 2, none⟩ = some (.int .i64 (bnd n k j)) ∧ w.cell? ⟨b, j * 2 + 1, none⟩ = some (.int .i64 (bnd n k (j + 1))) := by
  have a1 : (j * 2) / 2 = j := by omega
  have a2 : (j * 2) % 2 = 0 := by omega
  have a3 : (j * 2 + 1) / 2 = j := by omega
  have a4 : (j * 2 + 1) % 2 = 1 := by omega
  constructor
  · simp only [World.cell?, hb]
    refine ((shArr_get n k k (j * 2)).trans (if_pos (show j * 2 < k * 2 by omega))).trans ?_
    rw [a1, a2, if_pos hj]; rfl
  · simp only [World.cell?, hb]
    refine ((shArr_get n k k (j * 2 + 1)).trans (if_pos (show j * 2 + 1 < k * 2 by omega))).trans ?_
    rw [a3, a4, if_pos hj]

set_option maxRecDepth 100000 in
set_option maxHeartbeats 1600000 in
theorem walk_no (n k : Int) (w : World) (h : n < 0 ∨ k < 1 ∨ 16 < k) :
    Calls Try.prog 8 #[.int .i64 n, .int .i64 k] w fun e w' => e = .returned (.bool true) ∧ Below w.heap.size w w' := by
  have hnot : ∀ (x : Bool) (w : World), (Op.unary .not (.bool x)).run Try.prog w = .ok (.bool (!x)) w := fun _ _ => rfl
  have S0 : Hid _ := shards_yes 5 2 w (by omega) (by omega) (by omega)
  have tests : (decide (n < 0) = true) ∨ (decide (n < 0) = false ∧ decide (k < 1) = true) ∨ (decide (n < 0) = false ∧ decide (k < 1) = false ∧ decide (16 < k) = true) := by
    simp only [decide_eq_false_iff_not, decide_eq_true_eq]; omega
  have S1 : Hid _ := fun w0 => shards_no n k w0 h
  clear h
  rcases tests with t1 | ⟨t1, t2⟩ | ⟨t1, t2, t3⟩
  all_goals
    go_enter Try.func8, Try.ntmps8
    go_wp2_with fail
    refine Calls.mono S0.out ?_
    rintro e w1 ⟨rfl, hb1, b1⟩
    have g0 : w1.cell? ⟨w.heap.size, 1, none⟩ = some (.int .i64 3) := (cells_of hb1 0 (by omega)).2
    have g1 : w1.cell? ⟨w.heap.size, 3, none⟩ = some (.int .i64 5) := (cells_of hb1 1 (by omega)).2
    clear S0 hb1
    go_wp2_with fail
    refine Calls.mono (S1.out w1) ?_
    rintro e w2 ⟨rfl, h2⟩
    subst w2
    clear S1
    go_wp2_with fail
    go_ret
    exact ⟨rfl, b1⟩

set_option maxRecDepth 100000 in
set_option maxHeartbeats 1600000 in
theorem walk_yes (n k : Nat) (w : World) (hn : n ≤ 9223372036854775807) (hk1 : 1 ≤ k) (hk2 : k ≤ 16) :
    Calls Try.prog 8 #[.int .i64 n, .int .i64 k] w fun e w' => e = .returned (.bool true) ∧ Below w.heap.size w w' := by
  have hnot : ∀ (x : Bool) (w : World), (Op.unary .not (.bool x)).run Try.prog w = .ok (.bool (!x)) w := fun _ _ => rfl
  have S0 : Hid _ := shards_yes 5 2 w (by omega) (by omega) (by omega)
  have S1 : Hid _ := fun w0 => shards_yes n k w0 hn hk1 hk2
  have t1 : decide ((n : Int) < 0) = false := by simp only [decide_eq_false_iff_not]; omega
  have t2 : decide ((k : Int) < 1) = false := by simp only [decide_eq_false_iff_not]; omega
  have t3 : decide (16 < (k : Int)) = false := by simp only [decide_eq_false_iff_not]; omega
  obtain ⟨q, eq⟩ : ∃ q, q = n / k := ⟨_, rfl⟩
  obtain ⟨r, er⟩ : ∃ r, r = n % k := ⟨_, rfl⟩
  have hq : (n : Int).tdiv (k : Int) = (q : Int) := by rw [eq]; rfl
  have hr : (n : Int).tmod (k : Int) = (r : Int) := by rw [er]; rfl
  have hk0 : ((k : Int) == 0) = false := by simp; omega
  have EQ : Hid _ := eq
  have ER : Hid _ := er
  clear eq er
  go_enter Try.func8, Try.ntmps8
  go_wp2_with fail
  refine Calls.mono S0.out ?_
  rintro e w1 ⟨rfl, hb1, b1⟩
  have g0 : w1.cell? ⟨w.heap.size, 1, none⟩ = some (.int .i64 3) := (cells_of hb1 0 (by omega)).2
  have g1 : w1.cell? ⟨w.heap.size, 3, none⟩ = some (.int .i64 5) := (cells_of hb1 1 (by omega)).2
  clear S0 hb1
  go_wp2_with fail
  refine Calls.mono (S1.out w1) ?_
  rintro e w2 ⟨rfl, hb2, b2⟩
  have B2 : Hid (Below w.heap.size w w2) := b1.trans (b2.mono b1.size)
  have HB2 : Hid _ := hb2
  clear S1 g0 g1 b1 b2 hb2
  go_wp2_with fail
  go_loopw [7, 69] (fun f i wr => ∃ j : Nat, j ≤ k ∧ i = .int .i64 j ∧ f = .int .i64 (bnd n k j) ∧ wr.heap[w1.heap.size]? = some (.cells (shArr n k k) 42 (0, 0)) ∧ Below w.heap.size w wr) (fun _ i _ => k - (intOf i).toNat)
  case atStart => exact ⟨0, Nat.zero_le _, rfl, by rw [bnd_zero]; rfl, HB2.out, B2.out⟩
  case round =>
    obtain ⟨j, hj, rfl, rfl, hb, bb⟩ := hrel
    clear HB2 B2
    have l0 := bnd_le n k j hj
    by_cases hlt : j < k
    · have c1 : decide ((j : Int) < (k : Int)) = true := by simp only [decide_eq_true_eq]; omega
      have l1 := bnd_le n k (j + 1) hlt
      obtain ⟨g1, g2⟩ := cells_of hb j hlt
      have hl := lt_of_heap hb
      have HB : Hid _ := hb
      clear hb
      obtain ⟨to, et⟩ : ∃ t, t = bnd n k (j + 1) := ⟨_, rfl⟩
      obtain ⟨fr, ef⟩ : ∃ t, t = bnd n k j := ⟨_, rfl⟩
      rw [← ef] at l0 g1
      rw [← et] at l1 g2
      rw [← ef]
      have ET : Hid _ := et
      by_cases hm : j < r
      · have c2 : decide ((j : Int) < (r : Int)) = true := by simp only [decide_eq_true_eq]; omega
        have c3 : (j : Int) < (r : Int) := by omega
        have st : to = fr + q + 1 := by rw [et, ef, EQ.out]; exact bnd_more n k j (by rw [← ER.out]; exact hm)
        clear et ef
        go_wp2
        go_roundw
        case rel =>
          have e1 : ((fr : Int) + q + 1) = (to : Int) := by omega
          rw [e1]
          exact ⟨j + 1, hlt, by rw [Int.natCast_add]; rfl, by rw [ET.out], (Below.heap_alloc _ _ _ hl).trans HB.out, bb.alloc (by have := bb.size; omega) _⟩
        case measure => simp only [intOf]; omega
      · have c2 : decide ((j : Int) < (r : Int)) = false := by simp only [decide_eq_false_iff_not]; omega
        have c3 : ¬ (j : Int) < (r : Int) := by omega
        have st : to = fr + q := by rw [et, ef, EQ.out]; exact bnd_less n k j (by rw [← ER.out]; exact hm)
        clear et ef
        go_wp2
        go_roundw
        case rel =>
          have e1 : ((fr : Int) + q) = (to : Int) := by omega
          rw [e1]
          exact ⟨j + 1, hlt, by rw [Int.natCast_add]; rfl, by rw [ET.out], (Below.heap_alloc _ _ _ hl).trans HB.out, bb.alloc (by have := bb.size; omega) _⟩
        case measure => simp only [intOf]; omega
    · have ej : j = k := by omega
      subst ej
      have c1 : decide ((j : Int) < (j : Int)) = false := by simp
      have hz := bnd_all n j (by omega)
      go_wp2
      go_ret
      rw [hz]
      exact ⟨by simp, bb⟩

theorem walk (n k : Int) (w : World) (hn : n ≤ 9223372036854775807) :
    Calls Try.prog 8 #[.int .i64 n, .int .i64 k] w fun e w' => e = .returned (.bool true) ∧ Below w.heap.size w w' := by
  by_cases h : n < 0 ∨ k < 1 ∨ 16 < k
  · exact walk_no n k w h
  · obtain ⟨a, rfl⟩ := Int.eq_ofNat_of_zero_le (show 0 ≤ n by omega)
    obtain ⟨b, rfl⟩ := Int.eq_ofNat_of_zero_le (show 0 ≤ k by omega)
    exact walk_yes a b w (by omega) (by omega) (by omega)
end Go.Proofs.Ythocipgaackjcaa.fanShards
