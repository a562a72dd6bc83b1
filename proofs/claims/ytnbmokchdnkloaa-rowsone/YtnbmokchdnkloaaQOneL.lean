/- What is proved: the law RowsOne answers true, for every list of bytes; the bounds that a machine's memory sets. -/
import Derived.Test.YtnbmokchdnkloaaQOpen
namespace Go.Proofs.Ytnbmokchdnkloaa
open Go.RowKit

theorem eql_r0 (w : World) : (binOp .eql 23 (rowV r0) (rowV r0)).run Try.prog w = .ok (.bool true) w := eql_row r0 w
set_option maxRecDepth 100000 in
set_option maxHeartbeats 400000 in
theorem one9_err (w : World) (oa : Option Addr) (c : Nat) (l : List Int) (h : ArgB w oa c l) {p : Nat} {z : Int} (he : dec9 l = .error (p, z)) : Calls Try.prog 6 #[.slice oa l.length c] w fun e w' => e = .returned (.bool true) ∧ Kept w w' := by
  obtain ⟨hp, hz⟩ := dec9_err h.byts he
  have H0 : Hid (∀ W, _) := anchor9_any
  have HAP : Hid (∀ W, Kept w W → ∀ ty, _) := fun W (k : Kept w W) ty => app_lit (c := c) (h.data.kept k (fun _ _ h => h)) h.nil (by have := h.le; omega) ty
  have H1 : Hid (∀ (W : World) (v : Value) (base : Nat), OwnB base W v l → Calls Try.prog 17 #[v] W fun e w' => e = .returned (.tuple #[rowV r0, .int .i64 (p : Int), .int .i64 z]) ∧ Kept W w') := fun W v base o => by
    obtain ⟨a1, c1, rfl, d1, hc1, hn1, -, -⟩ := OwnB.bytes o
    exact decode9_bad d1 hn1 (by have := h.le; omega) hc1 h.byts he
  rw [show rowV r0 = .agg #[.int .i64 0, .int .i64 0, .int .i64 0, .int .i64 0, .int .i64 0, .int .i64 0, .string .empty] from rfl] at H1
  have hle := h.le
  obtain ⟨L, eL⟩ : ∃ L, L = l.length := ⟨_, rfl⟩
  rw [← eL] at HAP hp hle ⊢
  have d1 : decide ((p : Int) ≤ (L : Int)) = true := decide_eq_true (by omega)
  have d1' : (p : Int) ≤ (L : Int) := by omega
  have hz' : (z != 0) = true := by simpa using hz
  clear h he hp hz eL
  go_enter Try.func6, Try.ntmps6
  go_wp2_with fail
  refine Calls.mono (H0.out _) ?_
  rintro e w1 ⟨rfl, k1⟩
  have K1 : Hid _ := k1
  have HA1 : Hid _ := HAP.out w1 k1
  clear k1 HAP H0
  go_wp2_with (at_builtin; refine wpList_app rfl (.tmp 11) (.tmp 12) 28 28 rfl _ _ rfl rfl _ HA1.out ?_; intro v' w2 hR)
  have K2 : Hid (Kept w w2) := K1.out.trans' hR.2
  refine Calls.mono (H1.out _ _ _ hR.1) ?_
  rintro e w3 ⟨rfl, k3⟩
  have K3 : Hid _ := K2.out.trans' k3
  clear hR k3
  go_wp2_with fail
  go_ret
  exact ⟨rfl, K3.out.alloc _⟩
set_option maxRecDepth 100000 in
set_option maxHeartbeats 400000 in
theorem one9_ok (w : World) (oa : Option Addr) (c : Nat) (l : List Int) (h : ArgB w oa c l) {r : RwM} {n : Nat} (he : dec9 l = .ok (r, n)) : Calls Try.prog 6 #[.slice oa l.length c] w fun e w' => e = .returned (.bool true) ∧ Kept w w' := by
  obtain ⟨hr, hb, h7, hn⟩ := dec9_one h.byts he
  have H0 : Hid (∀ W, _) := anchor9_any
  have HAP : Hid (∀ W, Kept w W → ∀ ty, _) := fun W (k : Kept w W) ty => app_lit (c := c) (h.data.kept k (fun _ _ h => h)) h.nil (by have := h.le; omega) ty
  have H1 : Hid (∀ (W : World) (v : Value) (base : Nat), OwnB base W v l → Calls Try.prog 17 #[v] W fun e w' => e = .returned (.tuple #[rowV r, .int .i64 (n : Int), .int .i64 0]) ∧ Kept W w') := fun W v base o => by
    obtain ⟨a1, c1, rfl, d1, hc1, hn1, -, -⟩ := OwnB.bytes o
    exact decode9_good d1 hn1 (by have := h.le; omega) hc1 h.byts he
  have H2 : Hid (∀ W, _) := fun W => valid9_any r W
  rw [decide_eq_true hr] at H2
  have H3 : Hid (∀ W, _) := fun W => encode9_ok W r hr
  rw [hb] at H3
  have hle := h.le
  have hln : (l.take n).length = n := by rw [List.length_take]; omega
  have H4 : Hid (∀ (W : World) (b : Option Addr) (cb : Nat), Kept w W → BytesAt W b (l.take n) → ∀ ca, Calls Try.prog 15 #[.slice b n cb, .slice oa n ca] W fun e w' => e = .returned (.bool true) ∧ w' = W) := fun W b cb k hb' ca => by
    have := same_true W b oa cb ca (l.take n) hb' (bytes_take (h.data.kept k (fun _ _ h => h)) n) (by omega)
    rw [hln] at this
    exact this
  have hsl : ∀ W, _ := fun W => slice_upto W oa l.length c n h.nil (by have := h.cap; omega)
  obtain ⟨L, eL⟩ : ∃ L, L = l.length := ⟨_, rfl⟩
  have EN : Hid _ := hln
  rw [← eL] at HAP hn hle hsl ⊢
  have d1 : decide ((n : Int) < 7) = false := decide_eq_false (by omega)
  have d1' : ¬ (n : Int) < 7 := by omega
  have d2 : decide ((L : Int) < (n : Int)) = false := decide_eq_false (by omega)
  have d2' : ¬ (L : Int) < (n : Int) := by omega
  obtain ⟨kind, time, seq, index, frm, til, body⟩ := r
  unfold rowV at *
  simp only at *
  clear h he hr hb eL hln h7 hn
  go_enter Try.func6, Try.ntmps6
  go_wp2_with fail
  refine Calls.mono (H0.out _) ?_
  rintro e w1 ⟨rfl, k1⟩
  have K1 : Hid _ := k1
  have HA1 : Hid _ := HAP.out w1 k1
  clear k1 HAP H0
  go_wp2_with (at_builtin; refine wpList_app rfl (.tmp 11) (.tmp 12) 28 28 rfl _ _ rfl rfl _ HA1.out ?_; intro v' w2 hR)
  have K2 : Hid (Kept w w2) := K1.out.trans' hR.2
  refine Calls.mono (H1.out _ _ _ hR.1) ?_
  rintro e w3 ⟨rfl, k3⟩
  have K3 : Hid _ := K2.out.trans' k3
  clear hR k3
  go_wp2_with fail
  refine Calls.mono (H2.out _) ?_
  rintro e w4 ⟨rfl, k4⟩
  have b4 := (k4.block _ (by rw [World.size_alloc]; exact Nat.lt_succ_self _) (fun h => h)).trans (heap_new w3 _)
  obtain ⟨⟨c0, c1, c2, c3, c4, c5, c6⟩, -⟩ := row_obj b4
  have hl4 := lt_of_heap b4
  have K4 : Hid _ := (K3.out.alloc _).trans' k4
  clear k4 b4
  go_wp2_with fail
  refine Calls.mono (H3.out _) ?_
  rintro e w5 ⟨v5, rfl, o5, k5⟩
  obtain ⟨a5, cp5, rfl, d5, -, -, -, -⟩ := OwnB.bytes o5
  have K5 : Hid _ := K4.out.trans' k5
  have D5 : Hid _ := d5
  rw [EN.out]
  clear k5 o5 d5 c0 c1 c2 c3 c4 c5 c6
  go_wp2_with fail
  refine Calls.mono (H4.out _ _ _ K5.out D5.out _) ?_
  rintro e w6 ⟨rfl, ew⟩
  rw [← ew] at K5
  clear ew
  go_wp2_with fail
  go_ret
  exact ⟨rfl, K5.out⟩
end Go.Proofs.Ytnbmokchdnkloaa
