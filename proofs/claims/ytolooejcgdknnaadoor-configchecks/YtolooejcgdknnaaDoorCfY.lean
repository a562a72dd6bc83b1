/- What is proved: the document's which; condition: the text's length. -/
import Derived.Test.YtolooejcgdknnaaDoorCfR
import Derived.Test.YtolooejcgdknnaaDoorCfX
namespace Go.Proofs.YtolooejcgdknnaaDoor
open Go.RowKit

theorem eq_nm : ∀ k, 61 ∉ nmC k := fun k => by
  unfold nmC
  split <;> decide
theorem stg_iff {p : List UInt8} {k n : Nat} : stg p = some (k, n) ↔ k < 5 ∧ ∃ d, p = nmC k ++ 61 :: d ∧ numb d = some n := by
  constructor
  · intro h
    have h5 := (stg_lt h).1
    refine ⟨h5, ?_⟩
    rcases cut_cases 61 p with h2 | ⟨a, r, h2, rfl⟩
    · unfold stg at h
      rw [cutb_no h2] at h
      cases h
    · unfold stg at h
      rw [cutb_at h2] at h
      dsimp only at h
      cases hn : numb r with
      | none => rw [hn] at h; cases h
      | some m =>
        rw [hn] at h
        dsimp only at h
        cases hi : nIdx a with
        | none => rw [hi] at h; cases h
        | some j =>
          rw [hi] at h
          cases h
          exact ⟨r, by rw [(nIdx_lt hi).2], hn⟩
  · rintro ⟨h5, d, rfl, hn⟩
    unfold stg
    rw [cutb_at (eq_nm k)]
    dsimp only
    rw [hn, nIdx_nm h5]
def whV (o : Option (Nat × Nat)) : Value := match o with
  | none => .tuple #[.int .i64 (-1), .int .i64 0]
  | some (k, n) => .tuple #[.int .i64 (k : Int), .int .i64 (n : Int)]
/-- The name k stands ahead with a number behind it. -/
def Is (p : List UInt8) (k : Nat) : Prop := ∃ d n, p = nmC k ++ 61 :: d ∧ numb d = some n
theorem is_not1 {p : List UInt8} {k m : Nat} (hm : (nmC k).length = m) (h : ¬ m < p.length) : ¬ Is p k := by
  rintro ⟨d, n, rfl, -⟩
  simp at h
  omega
theorem is_not2 {p : List UInt8} {k m : Nat} (hm : (nmC k).length = m) (h : p.take m ≠ nmC k) : ¬ Is p k := by
  rintro ⟨d, n, rfl, -⟩
  apply h
  subst hm
  simp
theorem is_not3 {p : List UInt8} {k m : Nat} {b : UInt8} (hm : (nmC k).length = m) (hb : p[m]? = some b) (h : ¬ b = 61) : ¬ Is p k := by
  rintro ⟨d, n, rfl, -⟩
  subst hm
  simp at hb
  exact h hb.symm
theorem is_split {p : List UInt8} {k m : Nat} (h : p.take m = nmC k) (hb : p[m]? = some 61) : p = nmC k ++ 61 :: p.drop (m + 1) := by
  obtain ⟨h1, h2⟩ := List.getElem?_eq_some_iff.1 hb
  rw [← h, ← h2, List.getElem_cons_drop, List.take_append_drop]
theorem stg_no {p : List UInt8} (h : ∀ k, k < 5 → ¬ Is p k) : stg p = none := by
  cases hs : stg p with
  | none => rfl
  | some kn =>
    obtain ⟨k, n⟩ := kn
    obtain ⟨h1, d, h2, h3⟩ := stg_iff.1 hs
    exact (h k h1 ⟨d, n, h2, h3⟩).elim
set_option maxRecDepth 100000 in
set_option maxHeartbeats 6400000 in
theorem which_any (p : List UInt8) (w : World) (hl : p.length ≤ 281474976710656) : Calls Tryd.prog 24 #[tx p] w fun e w' => e = .returned (whV (stg p)) ∧ Kept w w' := by
  have HNM : Hid (∀ w, _) := names_any
  have HN : Hid (∀ l w, _) := rnumber_any21
  obtain ⟨Z, eZ⟩ : ∃ Z, Z = stg p := ⟨_, rfl⟩
  have HZ : Hid (Z = stg p) := eZ
  rw [← eZ]
  clear eZ
  go_enter Tryd.func24, Tryd.ntmps24
  go_wp2_with fail
  refine Calls.mono (HNM.out _) ?_
  rintro r w1 ⟨rfl, k1⟩
  have K1 : Hid (Kept w w1) := k1
  clear k1
  go_upto_region 2 with fail
  have K2 : Hid (Kept w (w1.alloc (.cells nmA 50))) := K1.out.alloc _
  have B2 : Hid ((w1.alloc (.cells nmA 50)).heap[w1.heap.size]? = some (.cells nmA 50 (0, 0))) := heap_new _ _
  have LT : Hid (w.heap.size ≤ w1.heap.size) := K1.out.size
  unfold nmA at K2 B2
  generalize World.alloc w1 _ = W1 at K2 B2 ⊢
  generalize w1.heap.size = g at B2 LT ⊢
  clear K1
  go_wp2_with fail
  go_loopw [5] (fun i wr => ∃ k : Nat, i = .int .i64 (k : Int) ∧ k ≤ 5 ∧ Kept w wr ∧ wr.heap[g]? = some (.cells nmA 50 (0, 0)) ∧ ∀ j, j < k → ¬ Is p j) (fun i _ => 5 - (intOf i).toNat)
  case atStart => exact ⟨0, rfl, by omega, K2.out, B2.out, by omega⟩
  case round =>
    obtain ⟨k, rfl, hk, h1, h2, h3⟩ := hrel
    rename World => W
    have HW : Hid (Kept w W ∧ W.heap[g]? = some (.cells nmA 50 (0, 0)) ∧ ∀ j, j < k → ¬ Is p j) := ⟨h1, h2, h3⟩
    clear h1 h2 h3
    have yl := lt_of_heap HW.out.2.1
    have hc : k = 0 ∨ k = 1 ∨ k = 2 ∨ k = 3 ∨ k = 4 ∨ k = 5 := by omega
    rcases hc with rfl | rfl | rfl | rfl | rfl | rfl
    · have y0 : ∀ n, (W.drewN n).cell? ⟨g, 0, none⟩ = some (.string ⟨#[98, 117, 100, 103, 101, 116]⟩) := fun n => cell_of (w := W.drewN n) HW.out.2.1 0
      have y00 : W.cell? ⟨g, 0, none⟩ = some (.string ⟨#[98, 117, 100, 103, 101, 116]⟩) := cell_of HW.out.2.1 0
      have hm : (nmC 0).length = 6 := rfl
      by_cases ha : 6 < p.length
      · have q1 : decide (((6 : Nat) : Int) < (p.length : Int)) = true := decide_eq_true (by omega)
        have q1' : decide (((6 : Int)) < (p.length : Int)) = true := decide_eq_true (by omega)
        have q1n : decide (6 < p.length) = true := decide_eq_true ha
        have ht : ∀ w, (Instr.slice 9 (tx p) none (some (.int .i64 6)) none).run Tryd.prog w = .ok (tx (p.take 6)) w := fun w => to_tx p 6 (by omega) w
        by_cases hb : p.take 6 = nmC 0
        · have q2 : (p.take 6 == [98, 117, 100, 103, 101, 116]) = true := by rw [hb]; rfl
          obtain ⟨b, hgb⟩ : ∃ b, p[6]? = some b := ⟨_, List.getElem?_eq_getElem ha⟩
          have hix : ∀ w, (Instr.index 9 (tx p) (.int .i64 6)).run Tryd.prog w = .ok (.int .u8 (b.toNat : Int)) w := fun w => idx_tx (i := 6) hgb w
          by_cases h61 : b = 61
          · have q3 : ((b.toNat : Int) == 61) = true := by rw [h61]; rfl
            have hf : ∀ w, (Instr.slice 9 (tx p) (some (.int .i64 7)) none none).run Tryd.prog w = .ok (tx (p.drop 7)) w := fun w => from_tx p 7 (by omega) w
            have hsp : Hid (p = nmC 0 ++ 61 :: p.drop 7) := is_split hb (by rw [hgb, h61])
            clear hb hgb h61
            generalize p.take 6 = pt at *
            go_upto_region 6 with fail
            go_quiet (fail)
            go_wp2_with fail
            refine Calls.mono (HN.out _ _) ?_
            rintro r w5 ⟨rfl, rfl⟩
            cases hn : numb (p.drop 7) with
            | none =>
              have NI : Hid (¬ Is p 0) := by
                rintro ⟨d, n, h1, h2⟩
                have h3 := hsp.out
                rw [h1] at h3
                have h4 := List.append_cancel_left h3
                simp only [List.cons.injEq, true_and] at h4
                have h5 : (nmC 0 ++ 61 :: d).drop 7 = d := by
                  have := hm
                  simp [List.drop_append, this]
                rw [h1, h5, h2] at hn
                cases hn
              simp only [rnV]
              clear hn hsp
              go_wp2_with fail
              go_roundw
              case rel =>
                refine ⟨1, rfl, by omega, Same.drewN HW.out.1 _, HW.out.2.1, fun j hj => ?_⟩
                by_cases h : j < 0
                · exact HW.out.2.2 j h
                · obtain rfl : j = 0 := by omega
                  exact NI.out
              case measure => simp [intOf]
            | some n =>
              have R : Hid (Z = some (0, n)) := by
                show _ = _
                rw [HZ.out, stg_iff]
                exact ⟨by omega, _, hsp.out, hn⟩
              simp only [rnV]
              clear hn hsp
              go_wp2_with fail
              go_ret2
              rw [R.out]
              exact ⟨rfl, Same.drewN HW.out.1 _⟩
          · have q3 : ((b.toNat : Int) == 61) = false := (eq_b _ 61).trans (beq_eq_false_iff_ne.2 h61)
            have NI : Hid (¬ Is p 0) := is_not3 hm hgb h61
            clear hb hgb h61
            generalize p.take 6 = pt at *
            go_upto_region 6 with fail
            go_quiet (fail)
            go_wp2_with fail
            go_roundw
            case rel =>
              refine ⟨1, rfl, by omega, Same.drewN HW.out.1 _, HW.out.2.1, fun j hj => ?_⟩
              by_cases h : j < 0
              · exact HW.out.2.2 j h
              · obtain rfl : j = 0 := by omega
                exact NI.out
            case measure => simp [intOf]
        · have q2 : (p.take 6 == [98, 117, 100, 103, 101, 116]) = false := beq_eq_false_iff_ne.2 hb
          have NI : Hid (¬ Is p 0) := is_not2 hm hb
          clear hb
          generalize p.take 6 = pt at *
          go_upto_region 6 with fail
          go_quiet (fail)
          go_wp2_with fail
          go_roundw
          case rel =>
            refine ⟨1, rfl, by omega, Same.drewN HW.out.1 _, HW.out.2.1, fun j hj => ?_⟩
            by_cases h : j < 0
            · exact HW.out.2.2 j h
            · obtain rfl : j = 0 := by omega
              exact NI.out
          case measure => simp [intOf]
      · have q1 : decide (((6 : Nat) : Int) < (p.length : Int)) = false := decide_eq_false (by omega)
        have q1' : decide (((6 : Int)) < (p.length : Int)) = false := decide_eq_false (by omega)
        have q1n : decide (6 < p.length) = false := decide_eq_false ha
        have NI : Hid (¬ Is p 0) := is_not1 hm ha
        clear ha
        go_upto_region 6 with fail
        go_quiet (fail)
        go_wp2_with fail
        go_roundw
        case rel =>
          refine ⟨1, rfl, by omega, Same.drewN HW.out.1 _, HW.out.2.1, fun j hj => ?_⟩
          by_cases h : j < 0
          · exact HW.out.2.2 j h
          · obtain rfl : j = 0 := by omega
            exact NI.out
        case measure => simp [intOf]
    · have y0 : ∀ n, (W.drewN n).cell? ⟨g, 1, none⟩ = some (.string ⟨#[102, 97, 110]⟩) := fun n => cell_of (w := W.drewN n) HW.out.2.1 1
      have y00 : W.cell? ⟨g, 1, none⟩ = some (.string ⟨#[102, 97, 110]⟩) := cell_of HW.out.2.1 1
      have hm : (nmC 1).length = 3 := rfl
      by_cases ha : 3 < p.length
      · have q1 : decide (((3 : Nat) : Int) < (p.length : Int)) = true := decide_eq_true (by omega)
        have q1' : decide (((3 : Int)) < (p.length : Int)) = true := decide_eq_true (by omega)
        have q1n : decide (3 < p.length) = true := decide_eq_true ha
        have ht : ∀ w, (Instr.slice 9 (tx p) none (some (.int .i64 3)) none).run Tryd.prog w = .ok (tx (p.take 3)) w := fun w => to_tx p 3 (by omega) w
        by_cases hb : p.take 3 = nmC 1
        · have q2 : (p.take 3 == [102, 97, 110]) = true := by rw [hb]; rfl
          obtain ⟨b, hgb⟩ : ∃ b, p[3]? = some b := ⟨_, List.getElem?_eq_getElem ha⟩
          have hix : ∀ w, (Instr.index 9 (tx p) (.int .i64 3)).run Tryd.prog w = .ok (.int .u8 (b.toNat : Int)) w := fun w => idx_tx (i := 3) hgb w
          by_cases h61 : b = 61
          · have q3 : ((b.toNat : Int) == 61) = true := by rw [h61]; rfl
            have hf : ∀ w, (Instr.slice 9 (tx p) (some (.int .i64 4)) none none).run Tryd.prog w = .ok (tx (p.drop 4)) w := fun w => from_tx p 4 (by omega) w
            have hsp : Hid (p = nmC 1 ++ 61 :: p.drop 4) := is_split hb (by rw [hgb, h61])
            clear hb hgb h61
            generalize p.take 3 = pt at *
            go_upto_region 6 with fail
            go_quiet (fail)
            go_wp2_with fail
            refine Calls.mono (HN.out _ _) ?_
            rintro r w5 ⟨rfl, rfl⟩
            cases hn : numb (p.drop 4) with
            | none =>
              have NI : Hid (¬ Is p 1) := by
                rintro ⟨d, n, h1, h2⟩
                have h3 := hsp.out
                rw [h1] at h3
                have h4 := List.append_cancel_left h3
                simp only [List.cons.injEq, true_and] at h4
                have h5 : (nmC 1 ++ 61 :: d).drop 4 = d := by
                  have := hm
                  simp [List.drop_append, this]
                rw [h1, h5, h2] at hn
                cases hn
              simp only [rnV]
              clear hn hsp
              go_wp2_with fail
              go_roundw
              case rel =>
                refine ⟨2, rfl, by omega, Same.drewN HW.out.1 _, HW.out.2.1, fun j hj => ?_⟩
                by_cases h : j < 1
                · exact HW.out.2.2 j h
                · obtain rfl : j = 1 := by omega
                  exact NI.out
              case measure => simp [intOf]
            | some n =>
              have R : Hid (Z = some (1, n)) := by
                show _ = _
                rw [HZ.out, stg_iff]
                exact ⟨by omega, _, hsp.out, hn⟩
              simp only [rnV]
              clear hn hsp
              go_wp2_with fail
              go_ret2
              rw [R.out]
              exact ⟨rfl, Same.drewN HW.out.1 _⟩
          · have q3 : ((b.toNat : Int) == 61) = false := (eq_b _ 61).trans (beq_eq_false_iff_ne.2 h61)
            have NI : Hid (¬ Is p 1) := is_not3 hm hgb h61
            clear hb hgb h61
            generalize p.take 3 = pt at *
            go_upto_region 6 with fail
            go_quiet (fail)
            go_wp2_with fail
            go_roundw
            case rel =>
              refine ⟨2, rfl, by omega, Same.drewN HW.out.1 _, HW.out.2.1, fun j hj => ?_⟩
              by_cases h : j < 1
              · exact HW.out.2.2 j h
              · obtain rfl : j = 1 := by omega
                exact NI.out
            case measure => simp [intOf]
        · have q2 : (p.take 3 == [102, 97, 110]) = false := beq_eq_false_iff_ne.2 hb
          have NI : Hid (¬ Is p 1) := is_not2 hm hb
          clear hb
          generalize p.take 3 = pt at *
          go_upto_region 6 with fail
          go_quiet (fail)
          go_wp2_with fail
          go_roundw
          case rel =>
            refine ⟨2, rfl, by omega, Same.drewN HW.out.1 _, HW.out.2.1, fun j hj => ?_⟩
            by_cases h : j < 1
            · exact HW.out.2.2 j h
            · obtain rfl : j = 1 := by omega
              exact NI.out
          case measure => simp [intOf]
      · have q1 : decide (((3 : Nat) : Int) < (p.length : Int)) = false := decide_eq_false (by omega)
        have q1' : decide (((3 : Int)) < (p.length : Int)) = false := decide_eq_false (by omega)
        have q1n : decide (3 < p.length) = false := decide_eq_false ha
        have NI : Hid (¬ Is p 1) := is_not1 hm ha
        clear ha
        go_upto_region 6 with fail
        go_quiet (fail)
        go_wp2_with fail
        go_roundw
        case rel =>
          refine ⟨2, rfl, by omega, Same.drewN HW.out.1 _, HW.out.2.1, fun j hj => ?_⟩
          by_cases h : j < 1
          · exact HW.out.2.2 j h
          · obtain rfl : j = 1 := by omega
            exact NI.out
        case measure => simp [intOf]
    · have y0 : ∀ n, (W.drewN n).cell? ⟨g, 2, none⟩ = some (.string ⟨#[115, 116, 97, 116, 101]⟩) := fun n => cell_of (w := W.drewN n) HW.out.2.1 2
      have y00 : W.cell? ⟨g, 2, none⟩ = some (.string ⟨#[115, 116, 97, 116, 101]⟩) := cell_of HW.out.2.1 2
      have hm : (nmC 2).length = 5 := rfl
      by_cases ha : 5 < p.length
      · have q1 : decide (((5 : Nat) : Int) < (p.length : Int)) = true := decide_eq_true (by omega)
        have q1' : decide (((5 : Int)) < (p.length : Int)) = true := decide_eq_true (by omega)
        have q1n : decide (5 < p.length) = true := decide_eq_true ha
        have ht : ∀ w, (Instr.slice 9 (tx p) none (some (.int .i64 5)) none).run Tryd.prog w = .ok (tx (p.take 5)) w := fun w => to_tx p 5 (by omega) w
        by_cases hb : p.take 5 = nmC 2
        · have q2 : (p.take 5 == [115, 116, 97, 116, 101]) = true := by rw [hb]; rfl
          obtain ⟨b, hgb⟩ : ∃ b, p[5]? = some b := ⟨_, List.getElem?_eq_getElem ha⟩
          have hix : ∀ w, (Instr.index 9 (tx p) (.int .i64 5)).run Tryd.prog w = .ok (.int .u8 (b.toNat : Int)) w := fun w => idx_tx (i := 5) hgb w
          by_cases h61 : b = 61
          · have q3 : ((b.toNat : Int) == 61) = true := by rw [h61]; rfl
            have hf : ∀ w, (Instr.slice 9 (tx p) (some (.int .i64 6)) none none).run Tryd.prog w = .ok (tx (p.drop 6)) w := fun w => from_tx p 6 (by omega) w
            have hsp : Hid (p = nmC 2 ++ 61 :: p.drop 6) := is_split hb (by rw [hgb, h61])
            clear hb hgb h61
            generalize p.take 5 = pt at *
            go_upto_region 6 with fail
            go_quiet (fail)
            go_wp2_with fail
            refine Calls.mono (HN.out _ _) ?_
            rintro r w5 ⟨rfl, rfl⟩
            cases hn : numb (p.drop 6) with
            | none =>
              have NI : Hid (¬ Is p 2) := by
                rintro ⟨d, n, h1, h2⟩
                have h3 := hsp.out
                rw [h1] at h3
                have h4 := List.append_cancel_left h3
                simp only [List.cons.injEq, true_and] at h4
                have h5 : (nmC 2 ++ 61 :: d).drop 6 = d := by
                  have := hm
                  simp [List.drop_append, this]
                rw [h1, h5, h2] at hn
                cases hn
              simp only [rnV]
              clear hn hsp
              go_wp2_with fail
              go_roundw
              case rel =>
                refine ⟨3, rfl, by omega, Same.drewN HW.out.1 _, HW.out.2.1, fun j hj => ?_⟩
                by_cases h : j < 2
                · exact HW.out.2.2 j h
                · obtain rfl : j = 2 := by omega
                  exact NI.out
              case measure => simp [intOf]
            | some n =>
              have R : Hid (Z = some (2, n)) := by
                show _ = _
                rw [HZ.out, stg_iff]
                exact ⟨by omega, _, hsp.out, hn⟩
              simp only [rnV]
              clear hn hsp
              go_wp2_with fail
              go_ret2
              rw [R.out]
              exact ⟨rfl, Same.drewN HW.out.1 _⟩
          · have q3 : ((b.toNat : Int) == 61) = false := (eq_b _ 61).trans (beq_eq_false_iff_ne.2 h61)
            have NI : Hid (¬ Is p 2) := is_not3 hm hgb h61
            clear hb hgb h61
            generalize p.take 5 = pt at *
            go_upto_region 6 with fail
            go_quiet (fail)
            go_wp2_with fail
            go_roundw
            case rel =>
              refine ⟨3, rfl, by omega, Same.drewN HW.out.1 _, HW.out.2.1, fun j hj => ?_⟩
              by_cases h : j < 2
              · exact HW.out.2.2 j h
              · obtain rfl : j = 2 := by omega
                exact NI.out
            case measure => simp [intOf]
        · have q2 : (p.take 5 == [115, 116, 97, 116, 101]) = false := beq_eq_false_iff_ne.2 hb
          have NI : Hid (¬ Is p 2) := is_not2 hm hb
          clear hb
          generalize p.take 5 = pt at *
          go_upto_region 6 with fail
          go_quiet (fail)
          go_wp2_with fail
          go_roundw
          case rel =>
            refine ⟨3, rfl, by omega, Same.drewN HW.out.1 _, HW.out.2.1, fun j hj => ?_⟩
            by_cases h : j < 2
            · exact HW.out.2.2 j h
            · obtain rfl : j = 2 := by omega
              exact NI.out
          case measure => simp [intOf]
      · have q1 : decide (((5 : Nat) : Int) < (p.length : Int)) = false := decide_eq_false (by omega)
        have q1' : decide (((5 : Int)) < (p.length : Int)) = false := decide_eq_false (by omega)
        have q1n : decide (5 < p.length) = false := decide_eq_false ha
        have NI : Hid (¬ Is p 2) := is_not1 hm ha
        clear ha
        go_upto_region 6 with fail
        go_quiet (fail)
        go_wp2_with fail
        go_roundw
        case rel =>
          refine ⟨3, rfl, by omega, Same.drewN HW.out.1 _, HW.out.2.1, fun j hj => ?_⟩
          by_cases h : j < 2
          · exact HW.out.2.2 j h
          · obtain rfl : j = 2 := by omega
            exact NI.out
        case measure => simp [intOf]
    · have y0 : ∀ n, (W.drewN n).cell? ⟨g, 3, none⟩ = some (.string ⟨#[101, 112, 115]⟩) := fun n => cell_of (w := W.drewN n) HW.out.2.1 3
      have y00 : W.cell? ⟨g, 3, none⟩ = some (.string ⟨#[101, 112, 115]⟩) := cell_of HW.out.2.1 3
      have hm : (nmC 3).length = 3 := rfl
      by_cases ha : 3 < p.length
      · have q1 : decide (((3 : Nat) : Int) < (p.length : Int)) = true := decide_eq_true (by omega)
        have q1' : decide (((3 : Int)) < (p.length : Int)) = true := decide_eq_true (by omega)
        have q1n : decide (3 < p.length) = true := decide_eq_true ha
        have ht : ∀ w, (Instr.slice 9 (tx p) none (some (.int .i64 3)) none).run Tryd.prog w = .ok (tx (p.take 3)) w := fun w => to_tx p 3 (by omega) w
        by_cases hb : p.take 3 = nmC 3
        · have q2 : (p.take 3 == [101, 112, 115]) = true := by rw [hb]; rfl
          obtain ⟨b, hgb⟩ : ∃ b, p[3]? = some b := ⟨_, List.getElem?_eq_getElem ha⟩
          have hix : ∀ w, (Instr.index 9 (tx p) (.int .i64 3)).run Tryd.prog w = .ok (.int .u8 (b.toNat : Int)) w := fun w => idx_tx (i := 3) hgb w
          by_cases h61 : b = 61
          · have q3 : ((b.toNat : Int) == 61) = true := by rw [h61]; rfl
            have hf : ∀ w, (Instr.slice 9 (tx p) (some (.int .i64 4)) none none).run Tryd.prog w = .ok (tx (p.drop 4)) w := fun w => from_tx p 4 (by omega) w
            have hsp : Hid (p = nmC 3 ++ 61 :: p.drop 4) := is_split hb (by rw [hgb, h61])
            clear hb hgb h61
            generalize p.take 3 = pt at *
            go_upto_region 6 with fail
            go_quiet (fail)
            go_wp2_with fail
            refine Calls.mono (HN.out _ _) ?_
            rintro r w5 ⟨rfl, rfl⟩
            cases hn : numb (p.drop 4) with
            | none =>
              have NI : Hid (¬ Is p 3) := by
                rintro ⟨d, n, h1, h2⟩
                have h3 := hsp.out
                rw [h1] at h3
                have h4 := List.append_cancel_left h3
                simp only [List.cons.injEq, true_and] at h4
                have h5 : (nmC 3 ++ 61 :: d).drop 4 = d := by
                  have := hm
                  simp [List.drop_append, this]
                rw [h1, h5, h2] at hn
                cases hn
              simp only [rnV]
              clear hn hsp
              go_wp2_with fail
              go_roundw
              case rel =>
                refine ⟨4, rfl, by omega, Same.drewN HW.out.1 _, HW.out.2.1, fun j hj => ?_⟩
                by_cases h : j < 3
                · exact HW.out.2.2 j h
                · obtain rfl : j = 3 := by omega
                  exact NI.out
              case measure => simp [intOf]
            | some n =>
              have R : Hid (Z = some (3, n)) := by
                show _ = _
                rw [HZ.out, stg_iff]
                exact ⟨by omega, _, hsp.out, hn⟩
              simp only [rnV]
              clear hn hsp
              go_wp2_with fail
              go_ret2
              rw [R.out]
              exact ⟨rfl, Same.drewN HW.out.1 _⟩
          · have q3 : ((b.toNat : Int) == 61) = false := (eq_b _ 61).trans (beq_eq_false_iff_ne.2 h61)
            have NI : Hid (¬ Is p 3) := is_not3 hm hgb h61
            clear hb hgb h61
            generalize p.take 3 = pt at *
            go_upto_region 6 with fail
            go_quiet (fail)
            go_wp2_with fail
            go_roundw
            case rel =>
              refine ⟨4, rfl, by omega, Same.drewN HW.out.1 _, HW.out.2.1, fun j hj => ?_⟩
              by_cases h : j < 3
              · exact HW.out.2.2 j h
              · obtain rfl : j = 3 := by omega
                exact NI.out
            case measure => simp [intOf]
        · have q2 : (p.take 3 == [101, 112, 115]) = false := beq_eq_false_iff_ne.2 hb
          have NI : Hid (¬ Is p 3) := is_not2 hm hb
          clear hb
          generalize p.take 3 = pt at *
          go_upto_region 6 with fail
          go_quiet (fail)
          go_wp2_with fail
          go_roundw
          case rel =>
            refine ⟨4, rfl, by omega, Same.drewN HW.out.1 _, HW.out.2.1, fun j hj => ?_⟩
            by_cases h : j < 3
            · exact HW.out.2.2 j h
            · obtain rfl : j = 3 := by omega
              exact NI.out
          case measure => simp [intOf]
      · have q1 : decide (((3 : Nat) : Int) < (p.length : Int)) = false := decide_eq_false (by omega)
        have q1' : decide (((3 : Int)) < (p.length : Int)) = false := decide_eq_false (by omega)
        have q1n : decide (3 < p.length) = false := decide_eq_false ha
        have NI : Hid (¬ Is p 3) := is_not1 hm ha
        clear ha
        go_upto_region 6 with fail
        go_quiet (fail)
        go_wp2_with fail
        go_roundw
        case rel =>
          refine ⟨4, rfl, by omega, Same.drewN HW.out.1 _, HW.out.2.1, fun j hj => ?_⟩
          by_cases h : j < 3
          · exact HW.out.2.2 j h
          · obtain rfl : j = 3 := by omega
            exact NI.out
        case measure => simp [intOf]
    · have y0 : ∀ n, (W.drewN n).cell? ⟨g, 4, none⟩ = some (.string ⟨#[108, 105, 109, 105, 116]⟩) := fun n => cell_of (w := W.drewN n) HW.out.2.1 4
      have y00 : W.cell? ⟨g, 4, none⟩ = some (.string ⟨#[108, 105, 109, 105, 116]⟩) := cell_of HW.out.2.1 4
      have hm : (nmC 4).length = 5 := rfl
      by_cases ha : 5 < p.length
      · have q1 : decide (((5 : Nat) : Int) < (p.length : Int)) = true := decide_eq_true (by omega)
        have q1' : decide (((5 : Int)) < (p.length : Int)) = true := decide_eq_true (by omega)
        have q1n : decide (5 < p.length) = true := decide_eq_true ha
        have ht : ∀ w, (Instr.slice 9 (tx p) none (some (.int .i64 5)) none).run Tryd.prog w = .ok (tx (p.take 5)) w := fun w => to_tx p 5 (by omega) w
        by_cases hb : p.take 5 = nmC 4
        · have q2 : (p.take 5 == [108, 105, 109, 105, 116]) = true := by rw [hb]; rfl
          obtain ⟨b, hgb⟩ : ∃ b, p[5]? = some b := ⟨_, List.getElem?_eq_getElem ha⟩
          have hix : ∀ w, (Instr.index 9 (tx p) (.int .i64 5)).run Tryd.prog w = .ok (.int .u8 (b.toNat : Int)) w := fun w => idx_tx (i := 5) hgb w
          by_cases h61 : b = 61
          · have q3 : ((b.toNat : Int) == 61) = true := by rw [h61]; rfl
            have hf : ∀ w, (Instr.slice 9 (tx p) (some (.int .i64 6)) none none).run Tryd.prog w = .ok (tx (p.drop 6)) w := fun w => from_tx p 6 (by omega) w
            have hsp : Hid (p = nmC 4 ++ 61 :: p.drop 6) := is_split hb (by rw [hgb, h61])
            clear hb hgb h61
            generalize p.take 5 = pt at *
            go_upto_region 6 with fail
            go_quiet (fail)
            go_wp2_with fail
            refine Calls.mono (HN.out _ _) ?_
            rintro r w5 ⟨rfl, rfl⟩
            cases hn : numb (p.drop 6) with
            | none =>
              have NI : Hid (¬ Is p 4) := by
                rintro ⟨d, n, h1, h2⟩
                have h3 := hsp.out
                rw [h1] at h3
                have h4 := List.append_cancel_left h3
                simp only [List.cons.injEq, true_and] at h4
                have h5 : (nmC 4 ++ 61 :: d).drop 6 = d := by
                  have := hm
                  simp [List.drop_append, this]
                rw [h1, h5, h2] at hn
                cases hn
              simp only [rnV]
              clear hn hsp
              go_wp2_with fail
              go_roundw
              case rel =>
                refine ⟨5, rfl, by omega, Same.drewN HW.out.1 _, HW.out.2.1, fun j hj => ?_⟩
                by_cases h : j < 4
                · exact HW.out.2.2 j h
                · obtain rfl : j = 4 := by omega
                  exact NI.out
              case measure => simp [intOf]
            | some n =>
              have R : Hid (Z = some (4, n)) := by
                show _ = _
                rw [HZ.out, stg_iff]
                exact ⟨by omega, _, hsp.out, hn⟩
              simp only [rnV]
              clear hn hsp
              go_wp2_with fail
              go_ret2
              rw [R.out]
              exact ⟨rfl, Same.drewN HW.out.1 _⟩
          · have q3 : ((b.toNat : Int) == 61) = false := (eq_b _ 61).trans (beq_eq_false_iff_ne.2 h61)
            have NI : Hid (¬ Is p 4) := is_not3 hm hgb h61
            clear hb hgb h61
            generalize p.take 5 = pt at *
            go_upto_region 6 with fail
            go_quiet (fail)
            go_wp2_with fail
            go_roundw
            case rel =>
              refine ⟨5, rfl, by omega, Same.drewN HW.out.1 _, HW.out.2.1, fun j hj => ?_⟩
              by_cases h : j < 4
              · exact HW.out.2.2 j h
              · obtain rfl : j = 4 := by omega
                exact NI.out
            case measure => simp [intOf]
        · have q2 : (p.take 5 == [108, 105, 109, 105, 116]) = false := beq_eq_false_iff_ne.2 hb
          have NI : Hid (¬ Is p 4) := is_not2 hm hb
          clear hb
          generalize p.take 5 = pt at *
          go_upto_region 6 with fail
          go_quiet (fail)
          go_wp2_with fail
          go_roundw
          case rel =>
            refine ⟨5, rfl, by omega, Same.drewN HW.out.1 _, HW.out.2.1, fun j hj => ?_⟩
            by_cases h : j < 4
            · exact HW.out.2.2 j h
            · obtain rfl : j = 4 := by omega
              exact NI.out
          case measure => simp [intOf]
      · have q1 : decide (((5 : Nat) : Int) < (p.length : Int)) = false := decide_eq_false (by omega)
        have q1' : decide (((5 : Int)) < (p.length : Int)) = false := decide_eq_false (by omega)
        have q1n : decide (5 < p.length) = false := decide_eq_false ha
        have NI : Hid (¬ Is p 4) := is_not1 hm ha
        clear ha
        go_upto_region 6 with fail
        go_quiet (fail)
        go_wp2_with fail
        go_roundw
        case rel =>
          refine ⟨5, rfl, by omega, Same.drewN HW.out.1 _, HW.out.2.1, fun j hj => ?_⟩
          by_cases h : j < 4
          · exact HW.out.2.2 j h
          · obtain rfl : j = 4 := by omega
            exact NI.out
        case measure => simp [intOf]
    · have R : Hid (Z = none) := by
        show _ = _
        rw [HZ.out]
        exact stg_no HW.out.2.2
      go_wp2_with fail
      go_ret2
      rw [R.out]
      exact ⟨rfl, HW.out.1⟩
end Go.Proofs.YtolooejcgdknnaaDoor
