/- What is proved: config's readSetting, readNumbers, Parse; condition: the text's length. -/
import Derived.Test.YtolooejcgdknnaaDoorCfQ
import Derived.Test.YtolooejcgdknnaaDoorCfW
namespace Go.Proofs.YtolooejcgdknnaaDoor
open Go.RowKit

def stV (o : Option (Nat × Nat)) : Value := match o with
  | none => .tuple #[.int .i64 0, .int .i64 0, .bool false]
  | some (k, n) => .tuple #[.int .i64 (k : Int), .int .i64 (n : Int), .bool true]
theorem cutb_len (c : UInt8) (l : List UInt8) : (cutb c l).1.length ≤ l.length ∧ (cutb c l).2.1.length ≤ l.length := by
  unfold cutb
  split
  · simp
  · simp only [List.length_take, List.length_drop]
    omega
set_option maxRecDepth 100000 in
set_option maxHeartbeats 1600000 in
theorem readSetting_any (p : List UInt8) (w : World) (hl : p.length ≤ 281474976710656) : Calls Tryd.prog 28 #[tx p] w fun e w' => e = .returned (stV (stg p)) ∧ Kept w w' := by
  have HS : Hid (∀ w, _) := settings_o
  have HC : Hid (∀ w, _) := fun w => cutw_any p 61 w (by omega)
  have HN : Hid (∀ w, _) := fun w => number_any21 (cutb 61 p).2.1 w (by have := (cutb_len 61 p).2; omega)
  obtain ⟨Z, eZ⟩ : ∃ Z, Z = stg p := ⟨_, rfl⟩
  have HZ : Hid (Z = match numb (cutb 61 p).2.1 with | none => none | some n => match nIdx (cutb 61 p).1 with | none => none | some k => some (k, n)) := eZ
  rw [← eZ]
  clear eZ
  generalize cutb 61 p = q at *
  obtain ⟨a, b, d⟩ := q
  simp only at HC HN HZ
  generalize numb b = o at *
  go_enter Tryd.func28, Tryd.ntmps28
  go_wp2_with fail
  refine Calls.mono (HC.out _) ?_
  rintro e w1 ⟨rfl, m, rfl⟩
  go_wp2_with fail
  refine Calls.mono (HN.out _) ?_
  rintro e w1 ⟨rfl, rfl⟩
  cases o with
  | none =>
    have R : Hid (Z = none) := HZ.out
    simp only [numV]
    go_wp2_with fail
    go_ret3
    rw [R.out]
    exact ⟨rfl, (Same.refl _ w).drewN m⟩
  | some n =>
    simp only at HZ
    simp only [numV]
    go_wp2_with fail
    refine Calls.mono (HS.out _) ?_
    rintro r w2 ⟨X, rfl, hX, k2⟩
    have HX : Hid (StgV X) := hX
    have K2 : Hid (Kept w w2) := ((Same.refl _ w).drewN m).trans' k2
    clear k2 hX
    go_wp2_with fail
    go_loopw [26] (fun i wr => ∃ k : Nat, i = .int .i64 (k : Int) ∧ k ≤ 5 ∧ Kept w wr ∧ ∀ j, j < k → ¬ a = nmC j) (fun i _ => 5 - (intOf i).toNat)
    case atStart => exact ⟨0, rfl, by omega, K2.out, by omega⟩
    case round =>
      obtain ⟨k, rfl, hk, h1, h2⟩ := hrel
      rename World => W
      have HP : Hid (Kept w W ∧ ∀ j, j < k → ¬ a = nmC j) := ⟨h1, h2⟩
      clear h1 h2
      have hc : k = 0 ∨ k = 1 ∨ k = 2 ∨ k = 3 ∨ k = 4 ∨ k = 5 := by omega
      rcases hc with rfl | rfl | rfl | rfl | rfl | rfl
      · have hx : ∀ w, _ := fun w => (stg_idx w X HX.out).1
        by_cases hn : a = nmC 0
        · have R : Hid (Z = some (0, n)) := by
            show _ = _
            have p := HP.out.2
            rw [HZ.out, hn]
            rfl
          have q : ([98, 117, 100, 103, 101, 116] == a) = true := by rw [hn]; rfl
          clear hn
          go_wp2_with fail
          go_ret3
          rw [R.out]
          exact ⟨rfl, HP.out.1.alloc _⟩
        · have q : ([98, 117, 100, 103, 101, 116] == a) = false := beq_eq_false_iff_ne.2 (fun e => hn e.symm)
          have HQ : Hid (¬ a = nmC 0) := hn
          clear hn
          go_wp2_with fail
          go_roundw
          case rel =>
            refine ⟨1, rfl, by omega, HP.out.1.alloc _, fun j hj => ?_⟩
            by_cases h : j < 0
            · exact HP.out.2 j h
            · obtain rfl : j = 0 := by omega
              exact HQ.out
          case measure => simp [intOf]
      · have hx : ∀ w, _ := fun w => (stg_idx w X HX.out).2.1
        by_cases hn : a = nmC 1
        · have R : Hid (Z = some (1, n)) := by
            show _ = _
            have p := HP.out.2
            rw [HZ.out, hn]
            rfl
          have q : ([102, 97, 110] == a) = true := by rw [hn]; rfl
          clear hn
          go_wp2_with fail
          go_ret3
          rw [R.out]
          exact ⟨rfl, HP.out.1.alloc _⟩
        · have q : ([102, 97, 110] == a) = false := beq_eq_false_iff_ne.2 (fun e => hn e.symm)
          have HQ : Hid (¬ a = nmC 1) := hn
          clear hn
          go_wp2_with fail
          go_roundw
          case rel =>
            refine ⟨2, rfl, by omega, HP.out.1.alloc _, fun j hj => ?_⟩
            by_cases h : j < 1
            · exact HP.out.2 j h
            · obtain rfl : j = 1 := by omega
              exact HQ.out
          case measure => simp [intOf]
      · have hx : ∀ w, _ := fun w => (stg_idx w X HX.out).2.2.1
        by_cases hn : a = nmC 2
        · have R : Hid (Z = some (2, n)) := by
            show _ = _
            have p := HP.out.2
            rw [HZ.out, hn]
            rfl
          have q : ([115, 116, 97, 116, 101] == a) = true := by rw [hn]; rfl
          clear hn
          go_wp2_with fail
          go_ret3
          rw [R.out]
          exact ⟨rfl, HP.out.1.alloc _⟩
        · have q : ([115, 116, 97, 116, 101] == a) = false := beq_eq_false_iff_ne.2 (fun e => hn e.symm)
          have HQ : Hid (¬ a = nmC 2) := hn
          clear hn
          go_wp2_with fail
          go_roundw
          case rel =>
            refine ⟨3, rfl, by omega, HP.out.1.alloc _, fun j hj => ?_⟩
            by_cases h : j < 2
            · exact HP.out.2 j h
            · obtain rfl : j = 2 := by omega
              exact HQ.out
          case measure => simp [intOf]
      · have hx : ∀ w, _ := fun w => (stg_idx w X HX.out).2.2.2.1
        by_cases hn : a = nmC 3
        · have R : Hid (Z = some (3, n)) := by
            show _ = _
            have p := HP.out.2
            rw [HZ.out, hn]
            rfl
          have q : ([101, 112, 115] == a) = true := by rw [hn]; rfl
          clear hn
          go_wp2_with fail
          go_ret3
          rw [R.out]
          exact ⟨rfl, HP.out.1.alloc _⟩
        · have q : ([101, 112, 115] == a) = false := beq_eq_false_iff_ne.2 (fun e => hn e.symm)
          have HQ : Hid (¬ a = nmC 3) := hn
          clear hn
          go_wp2_with fail
          go_roundw
          case rel =>
            refine ⟨4, rfl, by omega, HP.out.1.alloc _, fun j hj => ?_⟩
            by_cases h : j < 3
            · exact HP.out.2 j h
            · obtain rfl : j = 3 := by omega
              exact HQ.out
          case measure => simp [intOf]
      · have hx : ∀ w, _ := fun w => (stg_idx w X HX.out).2.2.2.2
        by_cases hn : a = nmC 4
        · have R : Hid (Z = some (4, n)) := by
            show _ = _
            have p := HP.out.2
            rw [HZ.out, hn]
            rfl
          have q : ([108, 105, 109, 105, 116] == a) = true := by rw [hn]; rfl
          clear hn
          go_wp2_with fail
          go_ret3
          rw [R.out]
          exact ⟨rfl, HP.out.1.alloc _⟩
        · have q : ([108, 105, 109, 105, 116] == a) = false := beq_eq_false_iff_ne.2 (fun e => hn e.symm)
          have HQ : Hid (¬ a = nmC 4) := hn
          clear hn
          go_wp2_with fail
          go_roundw
          case rel =>
            refine ⟨5, rfl, by omega, HP.out.1.alloc _, fun j hj => ?_⟩
            by_cases h : j < 4
            · exact HP.out.2 j h
            · obtain rfl : j = 4 := by omega
              exact HQ.out
          case measure => simp [intOf]
      · have R : Hid (Z = none) := by
          show _ = _
          have p := HP.out.2
          rw [HZ.out]
          unfold nIdx
          rw [if_neg (p 0 (by omega)), if_neg (p 1 (by omega)), if_neg (p 2 (by omega)), if_neg (p 3 (by omega)), if_neg (p 4 (by omega))]
        go_wp2_with fail
        go_ret3
        rw [R.out]
        exact ⟨rfl, HP.out.1⟩
end Go.Proofs.YtolooejcgdknnaaDoor
