/- What is proved: Valid of the code and of the document tell whether a row is right, for every row; no condition. -/
import Derived.Test.YtbjmdpfoeeadeaaQModel
namespace Go.Proofs.Ytbjmdpfoeeadeaa.Rw
open Go.RowKit

/-- A row as a value. -/
def rowV (r : RwM) : Value := .agg #[.int .i64 r.kind, .int .i64 r.time, .int .i64 r.seq, .int .i64 r.index, .int .i64 r.frm, .int .i64 r.til, .string r.body]

set_option maxRecDepth 100000 in
theorem within9_any (n most : Int) (w : World) : Calls Try.prog 36 #[.int .i64 n, .int .i64 most] w fun e w' => e = .returned (.bool (decide (inB n most))) ∧ w' = w := by
  unfold inB
  by_cases h : 0 ≤ n
  · have h' : decide (0 ≤ n) = true := decide_eq_true h
    have h2 : decide (0 ≤ n ∧ n ≤ most) = decide (n ≤ most) := by simp [h]
    rw [h2]
    clear h h2
    go_enter Try.func36, Try.ntmps36
    go_wp2_with fail
    go_ret
    exact ⟨rfl, rfl⟩
  · have h' : decide (0 ≤ n) = false := decide_eq_false h
    have h2 : decide (0 ≤ n ∧ n ≤ most) = false := by simp [h]
    rw [h2]
    clear h h2
    go_enter Try.func36, Try.ntmps36
    go_wp2_with fail
    go_ret
    exact ⟨rfl, rfl⟩

set_option maxRecDepth 100000 in
set_option maxHeartbeats 1600000 in
theorem valid9_any (r : RwM) (w : World) : Calls Try.prog 17 #[rowV r] w fun e w' => e = .returned (.bool (decide (rightR r))) ∧ Kept w w' := by
  obtain ⟨kind, time, seq, index, frm, til, body⟩ := r
  have H0 : Hid (∀ W, _) := fun W => within9_any time 1099511627776 W
  have H1 : Hid (∀ W, _) := fun W => within9_any seq 1048575 W
  have H2 : Hid (∀ W, _) := fun W => within9_any index 4095 W
  have H3 : Hid (∀ W, _) := fun W => within9_any frm 1099511627776 W
  have H4 : Hid (∀ W, _) := fun W => within9_any til 1099511627776 W
  obtain ⟨b0, e0⟩ : ∃ b : Bool, b = decide (inB time 1099511627776) := ⟨_, rfl⟩
  rw [← e0] at H0
  obtain ⟨b1, e1⟩ : ∃ b : Bool, b = decide (inB seq 1048575) := ⟨_, rfl⟩
  rw [← e1] at H1
  obtain ⟨b2, e2⟩ : ∃ b : Bool, b = decide (inB index 4095) := ⟨_, rfl⟩
  rw [← e2] at H2
  obtain ⟨b3, e3⟩ : ∃ b : Bool, b = decide (inB frm 1099511627776) := ⟨_, rfl⟩
  rw [← e3] at H3
  obtain ⟨b4, e4⟩ : ∃ b : Bool, b = decide (inB til 1099511627776) := ⟨_, rfl⟩
  rw [← e4] at H4
  have HR : Hid (decide (rightR ⟨kind, time, seq, index, frm, til, body⟩) = (decide (1 ≤ kind) && decide (kind ≤ 3) && b0 && b1 && b2 && b3 && b4 && decide ((body.size : Int) ≤ 512))) := by
    show decide _ = _
    rw [e0, e1, e2, e3, e4, Bool.eq_iff_iff, decide_eq_true_iff]
    have hb : ((body.size : Int) ≤ 512) = (body.size ≤ 512) := propext (by omega)
    simp only [rightR, Bool.and_eq_true, decide_eq_true_eq, and_assoc, hb]
  rw [HR.out]
  clear HR e0 e1 e2 e3 e4
  unfold rowV
  simp only
  obtain ⟨c0, d0⟩ : ∃ b : Bool, decide (1 ≤ kind) = b := ⟨_, rfl⟩
  obtain ⟨c1, d1⟩ : ∃ b : Bool, decide (kind ≤ 3) = b := ⟨_, rfl⟩
  rw [d0, d1]
  cases c0 with
  | false =>
    go_enter Try.func17, Try.ntmps17
    go_wp2_with fail
    go_ret
    exact ⟨rfl, (Same.refl _ w).alloc _⟩
  | true =>
    cases c1 with
    | false =>
      go_enter Try.func17, Try.ntmps17
      go_wp2_with fail
      go_ret
      exact ⟨rfl, (Same.refl _ w).alloc _⟩
    | true =>
      cases b0 with
      | false =>
        go_enter Try.func17, Try.ntmps17
        go_wp2_with fail
        refine Calls.mono (H0.out _) ?_
        rintro r w1 ⟨rfl, rfl⟩
        go_wp2_with fail
        go_ret
        exact ⟨rfl, (Same.refl _ w).alloc _⟩
      | true =>
        cases b1 with
        | false =>
          go_enter Try.func17, Try.ntmps17
          go_wp2_with fail
          refine Calls.mono (H0.out _) ?_
          rintro r w1 ⟨rfl, rfl⟩
          go_wp2_with fail
          refine Calls.mono (H1.out _) ?_
          rintro r w1 ⟨rfl, rfl⟩
          go_wp2_with fail
          go_ret
          exact ⟨rfl, (Same.refl _ w).alloc _⟩
        | true =>
          cases b2 with
          | false =>
            go_enter Try.func17, Try.ntmps17
            go_wp2_with fail
            refine Calls.mono (H0.out _) ?_
            rintro r w1 ⟨rfl, rfl⟩
            go_wp2_with fail
            refine Calls.mono (H1.out _) ?_
            rintro r w1 ⟨rfl, rfl⟩
            go_wp2_with fail
            refine Calls.mono (H2.out _) ?_
            rintro r w1 ⟨rfl, rfl⟩
            go_wp2_with fail
            go_ret
            exact ⟨rfl, (Same.refl _ w).alloc _⟩
          | true =>
            cases b3 with
            | false =>
              go_enter Try.func17, Try.ntmps17
              go_wp2_with fail
              refine Calls.mono (H0.out _) ?_
              rintro r w1 ⟨rfl, rfl⟩
              go_wp2_with fail
              refine Calls.mono (H1.out _) ?_
              rintro r w1 ⟨rfl, rfl⟩
              go_wp2_with fail
              refine Calls.mono (H2.out _) ?_
              rintro r w1 ⟨rfl, rfl⟩
              go_wp2_with fail
              refine Calls.mono (H3.out _) ?_
              rintro r w1 ⟨rfl, rfl⟩
              go_wp2_with fail
              go_ret
              exact ⟨rfl, (Same.refl _ w).alloc _⟩
            | true =>
              cases b4 with
              | false =>
                go_enter Try.func17, Try.ntmps17
                go_wp2_with fail
                refine Calls.mono (H0.out _) ?_
                rintro r w1 ⟨rfl, rfl⟩
                go_wp2_with fail
                refine Calls.mono (H1.out _) ?_
                rintro r w1 ⟨rfl, rfl⟩
                go_wp2_with fail
                refine Calls.mono (H2.out _) ?_
                rintro r w1 ⟨rfl, rfl⟩
                go_wp2_with fail
                refine Calls.mono (H3.out _) ?_
                rintro r w1 ⟨rfl, rfl⟩
                go_wp2_with fail
                refine Calls.mono (H4.out _) ?_
                rintro r w1 ⟨rfl, rfl⟩
                go_wp2_with fail
                go_ret
                exact ⟨rfl, (Same.refl _ w).alloc _⟩
              | true =>
                go_enter Try.func17, Try.ntmps17
                go_wp2_with fail
                refine Calls.mono (H0.out _) ?_
                rintro r w1 ⟨rfl, rfl⟩
                go_wp2_with fail
                refine Calls.mono (H1.out _) ?_
                rintro r w1 ⟨rfl, rfl⟩
                go_wp2_with fail
                refine Calls.mono (H2.out _) ?_
                rintro r w1 ⟨rfl, rfl⟩
                go_wp2_with fail
                refine Calls.mono (H3.out _) ?_
                rintro r w1 ⟨rfl, rfl⟩
                go_wp2_with fail
                refine Calls.mono (H4.out _) ?_
                rintro r w1 ⟨rfl, rfl⟩
                go_wp2_with fail
                go_ret
                exact ⟨rfl, (Same.refl _ w).alloc _⟩
end Go.Proofs.Ytbjmdpfoeeadeaa.Rw
