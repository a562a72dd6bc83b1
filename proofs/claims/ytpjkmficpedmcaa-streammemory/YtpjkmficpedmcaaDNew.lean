/- What is proved: what New lets pass and what it refuses, and the device that it makes; the lists that it is given lie in memory. -/
import Derived.Test.YtpjkmficpedmcaaDApp
import Derived.Deep.RegionWith
namespace Go.Proofs.Ytpjkmficpedmcaa
open Go.RowKit

theorem Same.drew0 {S : Nat → Prop} (w : World) : Same S w w.drew := (Same.refl S w).drew

set_option maxRecDepth 100000 in
theorem within_any (n l m : Int) (w : World) : Calls Try.prog 27 #[.int .i64 n, .int .i64 l, .int .i64 m] w fun e w' => e = .returned (.bool (decide (l ≤ n ∧ n ≤ m))) ∧ w' = w := by
  have tests : (decide (l ≤ n) = false ∧ decide (l ≤ n ∧ n ≤ m) = false) ∨ (decide (l ≤ n) = true ∧ decide (n ≤ m) = false ∧ decide (l ≤ n ∧ n ≤ m) = false) ∨ (decide (l ≤ n) = true ∧ decide (n ≤ m) = true ∧ decide (l ≤ n ∧ n ≤ m) = true) := by
    simp only [decide_eq_false_iff_not, decide_eq_true_eq]; omega
  rcases tests with ⟨t1, t3⟩ | ⟨t1, t2, t3⟩ | ⟨t1, t2, t3⟩
  all_goals
    rw [t3]
    clear t3
    go_enter Try.func27, Try.ntmps27
    go_wp2
    go_ret
    exact ⟨rfl, rfl⟩

/-- The sizes that are let pass. -/
def okG (B S : Int) : Bool := decide (16 ≤ B ∧ B ≤ 1024) && decide (0 ≤ S ∧ S ≤ 4096)
/-- The faults that are let pass. -/
def okF (B : Int) (f : Fl) : Bool := decide (1 ≤ f.k ∧ f.k ≤ 4) && decide (0 ≤ f.b ∧ f.b ≤ 4194304) && decide (1 ≤ f.n ∧ f.n ≤ 1099511627776) && decide (0 ≤ f.p ∧ f.p ≤ B)

set_option maxRecDepth 100000 in
set_option maxHeartbeats 1600000 in
theorem gright_any (B S : Int) (w : World) : Calls Try.prog 14 #[.agg #[.int .i64 B, .int .i64 S]] w fun e w' => e = .returned (.bool (okG B S)) ∧ Kept w w' := by
  have H1 : Hid (∀ w', _) := fun w' => within_any B 16 1024 w'
  have H2 : Hid (∀ w', _) := fun w' => within_any S 0 4096 w'
  unfold okG
  generalize decide (16 ≤ B ∧ B ≤ 1024) = b1 at H1 ⊢
  generalize decide (0 ≤ S ∧ S ≤ 4096) = b2 at H2 ⊢
  cases b1 with
  | false =>
    go_enter Try.func14, Try.ntmps14
    go_wp2_with fail
    refine Calls.mono (H1.out _) ?_
    rintro e w1 ⟨rfl, h1⟩
    subst w1
    go_wp2_with fail
    go_ret
    exact ⟨by simp, (Same.refl _ w).alloc _⟩
  | true =>
    go_enter Try.func14, Try.ntmps14
    go_wp2_with fail
    refine Calls.mono (H1.out _) ?_
    rintro e w1 ⟨rfl, h1⟩
    subst w1
    go_wp2_with fail
    refine Calls.mono (H2.out _) ?_
    rintro e w1 ⟨rfl, h1⟩
    subst w1
    go_wp2_with fail
    go_ret
    exact ⟨by simp, (Same.refl _ w).alloc _⟩

set_option maxRecDepth 100000 in
set_option maxHeartbeats 1600000 in
theorem fright_any (f : Fl) (B S : Int) (w : World) : Calls Try.prog 28 #[fagg f, .agg #[.int .i64 B, .int .i64 S]] w fun e w' => e = .returned (.bool (okF B f)) ∧ Kept w w' := by
  have H1 : Hid (∀ w', _) := fun w' => within_any f.k 1 4 w'
  have H2 : Hid (∀ w', _) := fun w' => within_any f.b 0 4194304 w'
  have H3 : Hid (∀ w', _) := fun w' => within_any f.n 1 1099511627776 w'
  have H4 : Hid (∀ w', _) := fun w' => within_any f.p 0 B w'
  unfold okF fagg
  generalize decide (1 ≤ f.k ∧ f.k ≤ 4) = b1 at H1 ⊢
  generalize decide (0 ≤ f.b ∧ f.b ≤ 4194304) = b2 at H2 ⊢
  generalize decide (1 ≤ f.n ∧ f.n ≤ 1099511627776) = b3 at H3 ⊢
  generalize decide (0 ≤ f.p ∧ f.p ≤ B) = b4 at H4 ⊢
  cases b1 with
  | false =>
    go_enter Try.func28, Try.ntmps28
    go_wp2_with fail
    refine Calls.mono (H1.out _) ?_
    rintro e w1 ⟨rfl, h1⟩
    subst w1
    go_wp2_with fail
    go_ret
    exact ⟨by simp, ((Same.refl _ w).alloc _).alloc _⟩
  | true =>
    cases b2 with
    | false =>
      go_enter Try.func28, Try.ntmps28
      go_wp2_with fail
      refine Calls.mono (H1.out _) ?_
      rintro e w1 ⟨rfl, h1⟩
      subst w1
      go_wp2_with fail
      refine Calls.mono (H2.out _) ?_
      rintro e w1 ⟨rfl, h1⟩
      subst w1
      go_wp2_with fail
      go_ret
      exact ⟨by simp, ((Same.refl _ w).alloc _).alloc _⟩
    | true =>
      cases b3 with
      | false =>
        go_enter Try.func28, Try.ntmps28
        go_wp2_with fail
        refine Calls.mono (H1.out _) ?_
        rintro e w1 ⟨rfl, h1⟩
        subst w1
        go_wp2_with fail
        refine Calls.mono (H2.out _) ?_
        rintro e w1 ⟨rfl, h1⟩
        subst w1
        go_wp2_with fail
        refine Calls.mono (H3.out _) ?_
        rintro e w1 ⟨rfl, h1⟩
        subst w1
        go_wp2_with fail
        go_ret
        exact ⟨by simp, ((Same.refl _ w).alloc _).alloc _⟩
      | true =>
        go_enter Try.func28, Try.ntmps28
        go_wp2_with fail
        refine Calls.mono (H1.out _) ?_
        rintro e w1 ⟨rfl, h1⟩
        subst w1
        go_wp2_with fail
        refine Calls.mono (H2.out _) ?_
        rintro e w1 ⟨rfl, h1⟩
        subst w1
        go_wp2_with fail
        refine Calls.mono (H3.out _) ?_
        rintro e w1 ⟨rfl, h1⟩
        subst w1
        go_wp2_with fail
        refine Calls.mono (H4.out _) ?_
        rintro e w1 ⟨rfl, h1⟩
        subst w1
        go_wp2_with fail
        go_ret
        exact ⟨by simp, ((Same.refl _ w).alloc _).alloc _⟩

set_option maxRecDepth 100000 in
set_option maxHeartbeats 1600000 in
theorem rfaults_any (F : List Fl) (fa : Option Addr) (c : Nat) (B S : Int) (w : World) (hF : FaultsAt w fa F) (hlen : F.length ≤ 9223372036854775807) :
    Calls Try.prog 15 #[.slice fa F.length c, .agg #[.int .i64 B, .int .i64 S]] w fun e w' => e = .returned (.bool (decide (F.length ≤ 64) && F.all (okF B))) ∧ Kept w w' := by
  have hnot : ∀ (x : Bool) (w : World), (Op.unary .not (.bool x)).run Try.prog w = .ok (.bool (!x)) w := fun _ _ => rfl
  obtain ⟨n, en⟩ : ∃ n, n = F.length := ⟨_, rfl⟩
  rw [← en] at hlen ⊢
  by_cases h64 : n ≤ 64
  · have t1 : decide (64 < (n : Int)) = false := by simp only [decide_eq_false_iff_not]; omega
    have t2 : ¬ (64 < (n : Int)) := by omega
    rw [show decide (n ≤ 64) = true from decide_eq_true h64, Bool.true_and]
    have EN : Hid _ := en
    have HF : Hid _ := hF
    have B0 : Hid ((w.alloc (.cells #[.int .i64 B, .int .i64 S] 29)).heap[w.heap.size]? = some (.cells #[.int .i64 B, .int .i64 S] 29 (0, 0))) := heap_new w _
    clear en hF
    go_enter Try.func15, Try.ntmps15
    go_wp2_with fail
    go_loopw [12] (fun i wr => ∃ j : Nat, j ≤ n ∧ i = .int .i64 j ∧ (F.take j).all (okF B) = true ∧ Kept (w.alloc (.cells #[.int .i64 B, .int .i64 S] 29)) wr) (fun i _ => n - (intOf i).toNat)
    case atStart => exact ⟨0, Nat.zero_le _, rfl, rfl, Same.refl _ _⟩
    case round =>
      obtain ⟨j, hj, rfl, hh, kk⟩ := hrel
      have KK : Hid _ := kk
      have HT : Hid _ := hh
      clear hh
      by_cases hlt : j < n
      · have c1 : decide ((j : Int) < (n : Int)) = true := by simp only [decide_eq_true_eq]; omega
        have hlt2 : (j : Int) < (n : Int) := by omega
        obtain ⟨f, hf⟩ : ∃ f, F[j]? = some f := ⟨_, List.getElem?_eq_getElem (by rw [← EN.out]; exact hlt)⟩
        have hF2 := FaultsAt.kept HF.out (((Same.refl _ w).alloc _).trans' kk) (fun _ _ h => h)
        obtain ⟨fb, off, rfl, hfb, q0, q1, q2, q3⟩ := hF2 j f hf
        have r0 : wr.heap[w.heap.size]? = some (.cells #[.int .i64 B, .int .i64 S] 29 (0, 0)) := (kk.block _ (by simp) (fun h => h)).trans B0.out
        have hlb := lt_of_heap r0
        have r1 : wr.cell? ⟨w.heap.size, 0, none⟩ = some (.int .i64 B) := (cell_of r0 0).trans rfl
        have r2 : wr.cell? ⟨w.heap.size, 1, none⟩ = some (.int .i64 S) := (cell_of r0 1).trans rfl
        have HC : Hid (∀ w', Calls Try.prog 28 #[.agg #[.int .i64 f.k, .int .i64 f.b, .int .i64 f.n, .int .i64 f.p], .agg #[.int .i64 B, .int .i64 S]] w' fun e w2 => e = .returned (.bool (okF B f)) ∧ Kept w' w2) := fun w' => fright_any f B S w'
        have HS : Hid ((F.take (j + 1)).all (okF B) = okF B f) := by
          show (F.take (j + 1)).all (okF B) = okF B f
          rw [List.take_add_one, hf]
          simp [HT.out]
        have HX : Hid (okF B f = false → F.all (okF B) = false) := fun h => by
          rw [List.all_eq_false]
          exact ⟨f, List.mem_of_getElem? hf, by rw [h]; decide⟩
        clear hF2 r0 kk hf
        rcases Bool.eq_false_or_eq_true (okF B f) with hb | hb
        · have HB : Hid _ := hb
          rw [hb] at HC
          go_wp2_with fail
          refine Calls.mono (HC.out _) ?_
          rintro e w1 ⟨rfl, k1⟩
          have K1 : Hid _ := k1
          clear k1
          go_wp2_with fail
          go_roundw
          case rel => exact ⟨j + 1, hlt, by rw [Int.natCast_add]; rfl, HS.out.trans HB.out, (KK.out.alloc _).trans' K1.out⟩
          case measure => simp only [intOf]; omega
        · have HB : Hid _ := hb
          rw [hb] at HC
          go_wp2_with fail
          refine Calls.mono (HC.out _) ?_
          rintro e w1 ⟨rfl, k1⟩
          have K1 : Hid _ := k1
          clear k1
          go_wp2_with fail
          go_ret
          rw [HX.out HB.out]
          exact ⟨rfl, ((((Same.refl _ w).alloc _).trans' KK.out).alloc _).trans' K1.out⟩
      · have ej : j = n := by omega
        subst ej
        have c1 : decide ((j : Int) < (j : Int)) = false := by simp
        go_wp2_with fail
        go_ret
        refine ⟨?_, ((Same.refl _ w).alloc _).trans' KK.out⟩
        have := HT.out
        rw [EN.out, List.take_length] at this
        rw [this]
        rfl
  · have t1 : decide (64 < (n : Int)) = true := by simp only [decide_eq_true_eq]; omega
    have t2 : 64 < (n : Int) := by omega
    rw [show decide (n ≤ 64) = false from decide_eq_false h64, Bool.false_and]
    clear hF en
    go_enter Try.func15, Try.ntmps15
    go_wp2_with fail
    go_ret
    exact ⟨rfl, (Same.refl _ w).alloc _⟩
end Go.Proofs.Ytpjkmficpedmcaa
