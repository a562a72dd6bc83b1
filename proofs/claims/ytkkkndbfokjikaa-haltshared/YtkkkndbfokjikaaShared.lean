/- What is proved: HaltShared returns true whatever its arguments, and leaves all that was there as it was; the cells of the slice of turns lie in memory. -/
import Derived.Test.YtkkkndbfokjikaaTriT
namespace Go.Proofs.Ytkkkndbfokjikaa.haltShared
open Go.RowKit Go.Conc

set_option maxRecDepth 100000 in
set_option maxHeartbeats 800000 in
theorem walk_out (a0 : Int) (tv : Value) (w : World) (h : a0 < 0 ∨ 1099511627776 < a0) :
    Calls Try.prog 6 #[.int .i64 a0, tv] w fun e w' => e = .returned (.bool true) ∧ Below w.heap.size w w' := by
  have hnot : ∀ (x : Bool) (w : World), (Op.unary .not (.bool x)).run Try.prog w = .ok (.bool (!x)) w := fun _ _ => rfl
  have tests : (decide (a0 < 0) = false ∧ decide (1099511627776 < a0) = true) ∨ decide (a0 < 0) = true := by simp only [decide_eq_false_iff_not, decide_eq_true_eq]; omega
  clear h
  rcases tests with ⟨t1, t2⟩ | t1
  all_goals
    go_enter Try.func6, Try.ntmps6
    go_wp2_with fail
    refine (anchor_true w).mono ?_
    rintro e w1 ⟨rfl, s1⟩
    go_wp2_with fail
    go_ret
    exact ⟨rfl, s1.below (Nat.le_refl _) fun _ h => h.elim⟩

set_option maxRecDepth 100000 in
set_option maxHeartbeats 1600000 in
theorem walk_in (n : Nat) (sa : Option Addr) (len cap : Nat) (B : Nat → Bool) (w : World) (hn : n ≤ 1099511627776) (hlen : len ≤ maxLen)
    (hc : ∀ i, i < len → ∃ b off, sa = some ⟨b, off, none⟩ ∧ b < w.heap.size ∧ w.cell? ⟨b, off + i, none⟩ = some (.bool (B i))) :
    Calls Try.prog 6 #[.int .i64 n, .slice sa len cap] w fun e w' => e = .returned (.bool true) ∧ Below w.heap.size w w' := by
  have hnot : ∀ (x : Bool) (w : World), (Op.unary .not (.bool x)).run Try.prog w = .ok (.bool (!x)) w := fun _ _ => rfl
  have t1 : decide ((n : Int) < 0) = false := by simp only [decide_eq_false_iff_not]; omega
  have t2 : decide (1099511627776 < (n : Int)) = false := by simp only [decide_eq_false_iff_not]; omega
  unfold maxLen at hlen
  have hn' : (n : Int) ≤ 1099511627776 := by omega
  have hlen' : (len : Int) ≤ 9223372036854775807 := by omega
  have HC : Hid _ := hc
  clear hc
  go_enter Try.func6, Try.ntmps6
  go_wp2_with fail
  refine (anchor_true w).mono ?_
  rintro e w1 ⟨rfl, s1⟩
  go_wp2_with fail
  refine (new_yes n w1 (by omega) (by omega)).mono ?_
  rintro e w2 ⟨rfl, sv2, h2, f2, s2⟩
  go_wp2_with fail
  refine (child_yes w2 h2 0 Nat.one_pos 1099511627776 (by omega) (by omega) (by show 1 < 256; omega)).mono ?_
  rintro e w3 ⟨rfl, sv3, h3, f3, s3⟩
  go_wp2_with fail
  refine (child_yes w3 h3 0 (by show 0 < 2; omega) 1099511627776 (by omega) (by omega) (by show 2 < 256; omega)).mono ?_
  rintro e w4 ⟨rfl, sv4, h4, f4, s4⟩
  have g3 : ∀ k, Foot (kidTr (seedTr w1.heap.size sv2 n) 0 1099511627776 (born 0) sv3 (w2.heap.size + 1) w2.heap.size) k → w1.heap.size ≤ k := fun k hk => by
    rcases foot_kid f3 (Nat.le_succ _) (Nat.le_refl _) k hk with h | h
    · exact f2 k h
    · have := s2.size; omega
  have g4 : ∀ k, Foot (kidTr (kidTr (seedTr w1.heap.size sv2 n) 0 1099511627776 (born 0) sv3 (w2.heap.size + 1) w2.heap.size) 0 1099511627776 (born 0) sv4 (w3.heap.size + 1) w3.heap.size) k → w1.heap.size ≤ k := fun k hk => by
    rcases foot_kid f4 (Nat.le_succ _) (Nat.le_refl _) k hk with h | h
    · exact g3 k h
    · have := s2.size; have := s3.size; omega
  have HT : Hid (Tri (w1.heap.size + 2) (w2.heap.size + 1) (w3.heap.size + 1) w1.heap.size w4 n 0) :=
    ⟨_, h4, rfl, rfl, rfl, rfl, rfl, rfl, rfl, g4, .inl ⟨Nat.zero_le _, rfl, rfl, rfl, by show (n : Int) = n - (0 : Nat); omega, by show _ ≤ (1099511627776 : Int); omega, by show (1099511627776 : Int) ≤ _; omega, by show _ ≤ (1099511627776 : Int); omega, by show (1099511627776 : Int) ≤ _; omega⟩⟩
  have D : Hid (w.heap.size ≤ w1.heap.size) := s1.size
  have B4 : Hid (Below w.heap.size w w4) := by
    have z1 := s1.below (B := w.heap.size) (Nat.le_refl _) (fun _ h => h.elim)
    have z2 := s2.below (B := w.heap.size) s1.size (fun _ h => h.elim)
    have e2 := Nat.le_trans s1.size s2.size
    have z3 := s3.below (B := w.heap.size) e2 (fun k h => by have := f2 k h; have := s1.size; omega)
    have z4 := s4.below (B := w.heap.size) (Nat.le_trans e2 s3.size) (fun k h => by have := g3 k h; have := s1.size; omega)
    exact ((z1.trans z2).trans z3).trans z4
  clear h2 f2 s2 h3 f3 s3 h4 f4 s4 s1 g3 g4
  go_wp2_with fail
  go_loopw [59] (fun q wx => ∃ k : Nat, k ≤ len ∧ q = .int .i64 k ∧ Tri (w1.heap.size + 2) (w2.heap.size + 1) (w3.heap.size + 1) w1.heap.size wx n k ∧ Below w.heap.size w wx) (fun q _ => len - (intOf q).toNat)
  case atStart => exact ⟨0, Nat.zero_le _, rfl, HT.out, B4.out⟩
  case round =>
    obtain ⟨k, hk, rfl, hh, bb⟩ := hrel
    have HH : Hid _ := hh
    clear hh HT
    by_cases hlt : k < len
    · obtain ⟨b, off, rfl, hb, hcell⟩ := HC.out k hlt
      have hcell' : wr.cell? ⟨b, off + k, none⟩ = some (.bool (B k)) := (bb.cell (p := ⟨b, off + k, none⟩) hb).trans hcell
      clear hcell
      cases hB : B k with
      | true =>
        rw [hB] at hcell'
        clear hB
        go_wp2_with fail
        refine (tri_beat _ _ _ _ _ n k hn HH.out (w2.heap.size + 1) (.inl rfl)).mono ?_
        rintro e w5 ⟨rfl, h5, b5⟩
        have H5 : Hid _ := h5
        have B5 : Hid (Below w.heap.size w w5) := bb.trans (b5.mono D.out)
        clear h5 b5 hcell'
        go_wp2_with fail
        go_roundw
        case rel => exact ⟨k + 1, by omega, by go_num, H5.out, B5.out⟩
        case measure => simp [intOf]; omega
      | false =>
        rw [hB] at hcell'
        clear hB
        go_wp2_with fail
        refine (tri_beat _ _ _ _ _ n k hn HH.out (w3.heap.size + 1) (.inr rfl)).mono ?_
        rintro e w5 ⟨rfl, h5, b5⟩
        have H5 : Hid _ := h5
        have B5 : Hid (Below w.heap.size w w5) := bb.trans (b5.mono D.out)
        clear h5 b5 hcell'
        go_wp2_with fail
        go_roundw
        case rel => exact ⟨k + 1, by omega, by go_num, H5.out, B5.out⟩
        case measure => simp [intOf]; omega
    · have hkn : k = len := by omega
      subst hkn
      by_cases hle : k ≤ n
      · have hle' : decide ((k : Int) ≤ (n : Int)) = true := by simp only [decide_eq_true_eq]; omega
        have hle2 : (k : Int) ≤ (n : Int) := by omega
        go_wp2_with fail
        refine (tri_cause _ _ _ _ _ n k HH.out (w1.heap.size + 2) 0 (.inl ⟨rfl, (if_pos hle).symm⟩)).mono ?_
        rintro e w5 ⟨rfl, h5, b5⟩
        go_wp2_with fail
        refine (tri_left _ _ _ _ _ n k h5 ((n : Int) - k) (if_pos hle).symm).mono ?_
        rintro e w6 ⟨rfl, h6, b6⟩
        go_wp2_with fail
        go_ret
        exact ⟨rfl, (bb.trans (b5.mono D.out)).trans (b6.mono D.out)⟩
      · have hle' : decide ((k : Int) ≤ (n : Int)) = false := by simp only [decide_eq_false_iff_not]; omega
        go_wp2_with fail
        refine (tri_cause _ _ _ _ _ n k HH.out (w1.heap.size + 2) 2 (.inl ⟨rfl, (if_neg hle).symm⟩)).mono ?_
        rintro e w5 ⟨rfl, h5, b5⟩
        go_wp2_with fail
        refine (tri_cause _ _ _ _ _ n k h5 (w2.heap.size + 1) 3 (.inr ⟨by omega, .inl rfl, rfl⟩)).mono ?_
        rintro e w6 ⟨rfl, h6, b6⟩
        go_wp2_with fail
        refine (tri_cause _ _ _ _ _ n k h6 (w3.heap.size + 1) 3 (.inr ⟨by omega, .inr rfl, rfl⟩)).mono ?_
        rintro e w7 ⟨rfl, h7, b7⟩
        go_wp2_with fail
        refine (tri_left _ _ _ _ _ n k h7 0 (if_neg hle).symm).mono ?_
        rintro e w8 ⟨rfl, h8, b8⟩
        go_wp2_with fail
        go_ret
        exact ⟨rfl, (((bb.trans (b5.mono D.out)).trans (b6.mono D.out)).trans (b7.mono D.out)).trans (b8.mono D.out)⟩

theorem walk (a0 : Int) (sa : Option Addr) (len cap : Nat) (B : Nat → Bool) (w : World) (hlen : len ≤ maxLen)
    (hc : ∀ i, i < len → ∃ b off, sa = some ⟨b, off, none⟩ ∧ b < w.heap.size ∧ w.cell? ⟨b, off + i, none⟩ = some (.bool (B i))) :
    Calls Try.prog 6 #[.int .i64 a0, .slice sa len cap] w fun e w' => e = .returned (.bool true) ∧ Below w.heap.size w w' := by
  by_cases h : 0 ≤ a0 ∧ a0 ≤ 1099511627776
  · obtain ⟨n, rfl⟩ := Int.eq_ofNat_of_zero_le h.1
    exact walk_in n sa len cap B w (by omega) hlen hc
  · exact walk_out a0 _ w (by omega)
end Go.Proofs.Ytkkkndbfokjikaa.haltShared
