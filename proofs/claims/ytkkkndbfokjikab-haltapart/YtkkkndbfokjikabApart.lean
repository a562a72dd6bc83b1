/- What is proved: HaltApart returns true whatever its arguments, and leaves all that was there as it was; the cells of both scripts lie in memory. -/
import Derived.Test.YtkkkndbfokjikabPair
namespace Go.Proofs.Ytkkkndbfokjikab.haltApart
open Go.RowKit Go.Conc

set_option maxRecDepth 100000 in
set_option maxHeartbeats 4000000 in
theorem walk (sa : Option Addr) (la ca : Nat) (KA AA NA : Nat → Int) (sb : Option Addr) (lb cb : Nat) (KB AB NB : Nat → Int) (w : World) (hla : la ≤ maxLen) (hlb : lb ≤ maxLen) (hca : Script w sa la KA AA NA) (hcb : Script w sb lb KB AB NB) :
    Calls Try.prog 3 #[.slice sa la ca, .slice sb lb cb] w fun e w' => e = .returned (.bool true) ∧ Below w.heap.size w w' := by
  have hnot : ∀ (x : Bool) (w : World), (Op.unary .not (.bool x)).run Try.prog w = .ok (.bool (!x)) w := fun _ _ => rfl
  unfold maxLen at hla hlb
  have hla' : (la : Int) ≤ 9223372036854775807 := by omega
  have hlb' : (lb : Int) ≤ 9223372036854775807 := by omega
  have HA : Hid _ := hca
  have HB : Hid _ := hcb
  clear hca hcb
  go_enter Try.func3, Try.ntmps3
  go_wp2_with fail
  refine (anchor_true w).mono ?_
  rintro e w1 ⟨rfl, s1⟩
  have B1 : Hid _ := s1.below (B := w.heap.size) (Nat.le_refl _) fun _ h => h.elim
  have D : Hid (w.heap.size ≤ w1.heap.size) := s1.size
  clear s1
  go_wp2_with fail
  refine (new_yes 6 w1 (by omega) (by omega)).mono ?_
  rintro e w2 ⟨rfl, va, h2, f2, s2⟩
  go_wp2_with fail
  refine (new_yes 6 w2 (by omega) (by omega)).mono ?_
  rintro e w3 ⟨rfl, vb, h3, f3, s3⟩
  have i3 : ((w3.alloc (.cells #[.slice none 0 0] 31)).alloc (.cells #[.slice none 0 0] 31)).heap[w3.heap.size]? = some (.cells #[.slice none 0 0] 31 (0, 0)) := (Below.heap_alloc _ _ _ (by simp)).trans (heap_alloc_new w3 _)
  have j3 := heap_alloc_new (w3.alloc (.cells #[.slice none 0 0] 31)) (.cells #[.slice none 0 0] 31)
  rw [World.size_alloc] at j3
  go_wp2_with fail
  refine (rnew_yes w3.heap.size 6 _ (by omega) (by omega) i3).mono ?_
  rintro e w4 ⟨rfl, r4, s4⟩
  have j4 := (s4.block (w3.heap.size + 1) (by simp) (by omega)).trans j3
  rw [World.size_alloc, World.size_alloc] at r4
  go_wp2_with fail
  refine (rnew_yes (w3.heap.size + 1) 6 _ (by omega) (by omega) j4).mono ?_
  rintro e w5 ⟨rfl, r5, s5⟩
  have T0 : Hid _ := two_seed h2 f2 s2 h3 f3 s3 r4 s4 r5 s5
  clear h2 f2 s2 h3 f3 s3 r4 s4 r5 s5 i3 j3 j4
  go_wp2_with fail
  go_loopw [11, 12, 13, 14] (fun l m o q wx => ∃ (k : Nat) (T1 : Tr) (l1 c1 g1 r1 : Nat) (T2 : Tr) (l2 c2 g2 r2 : Nat), k ≤ max la lb ∧ o = .bool true ∧ q = .int .i64 k ∧ l = .slice (some ⟨l1, 0, none⟩) T1.n c1 ∧ m = .slice (some ⟨l2, 0, none⟩) T2.n c2 ∧
    Two w1.heap.size w1 wx T1 l1 c1 w3.heap.size g1 r1 T2 l2 c2 (w3.heap.size + 1) g2 r2) (fun _ _ _ q _ => max la lb - (intOf q).toNat)
  case atStart => exact ⟨0, _, _, _, _, _, _, _, _, _, _, Nat.zero_le _, rfl, rfl, rfl, rfl, T0.out⟩
  case round =>
    obtain ⟨k, T1, l1, c1, g1, r1, T2, l2, c2, g2, r2, hk, rfl, rfl, rfl, rfl, ht⟩ := hrel
    have HT : Hid _ := ht
    clear T0 ht
    have BW : Hid (∀ wx, Below w1.heap.size w1 wx → Below w.heap.size w wx) := fun wx h => B1.out.trans (h.mono D.out)
    by_cases ha : k < la
    · by_cases hb : k < lb
      · obtain ⟨ab, ao, rfl, ah, a0, a1, a2⟩ := HA.out k ha
        have a0' : wr.cell? ⟨ab, ao + k * 3, none⟩ = some (.int .i64 (KA k)) := ((BW.out _ HT.out.bl).cell (p := ⟨ab, ao + k * 3, none⟩) ah).trans a0
        have a1' : wr.cell? ⟨ab, ao + k * 3 + 1, none⟩ = some (.int .i64 (AA k)) := ((BW.out _ HT.out.bl).cell (p := ⟨ab, ao + k * 3 + 1, none⟩) ah).trans a1
        have a2' : wr.cell? ⟨ab, ao + k * 3 + 2, none⟩ = some (.int .i64 (NA k)) := ((BW.out _ HT.out.bl).cell (p := ⟨ab, ao + k * 3 + 2, none⟩) ah).trans a2
        clear a0 a1 a2
        have ta1 : decide ((k : Int) < (la : Int)) = true := by simp only [decide_eq_true_eq]; omega
        have ta2 : (k : Int) < (la : Int) := by omega
        have tb1 : decide ((k : Int) < (lb : Int)) = true := by simp only [decide_eq_true_eq]; omega
        have tb2 : (k : Int) < (lb : Int) := by omega
        go_wp2_with fail
        refine (step_any HT.out.a _ _ _).mono ?_
        rintro e w6 ⟨T1', l1', c1', g1', r1', rfl, G6, F6, S6⟩
        have H6 : Hid _ := HT.out.turn G6 F6 S6
        clear G6 F6 S6 a0' a1' a2'
        obtain ⟨bb, bo, rfl, bh, b0, b1, b2⟩ := HB.out k hb
        have b0' : w6.cell? ⟨bb, bo + k * 3, none⟩ = some (.int .i64 (KB k)) := ((BW.out _ H6.out.bl).cell (p := ⟨bb, bo + k * 3, none⟩) bh).trans b0
        have b1' : w6.cell? ⟨bb, bo + k * 3 + 1, none⟩ = some (.int .i64 (AB k)) := ((BW.out _ H6.out.bl).cell (p := ⟨bb, bo + k * 3 + 1, none⟩) bh).trans b1
        have b2' : w6.cell? ⟨bb, bo + k * 3 + 2, none⟩ = some (.int .i64 (NB k)) := ((BW.out _ H6.out.bl).cell (p := ⟨bb, bo + k * 3 + 2, none⟩) bh).trans b2
        clear b0 b1 b2
        go_wp2_with fail
        refine (step_any H6.out.b _ _ _).mono ?_
        rintro e w7 ⟨T2', l2', c2', g2', r2', rfl, G7, F7, S7⟩
        have H7 : Hid _ := (H6.out.symm.turn G7 F7 S7).symm
        clear G7 F7 S7 b0' b1' b2'
        go_wp2_with fail
        go_roundw
        case rel => exact ⟨k + 1, T1', l1', c1', g1', r1', T2', l2', c2', g2', r2', by omega, rfl, by go_num, rfl, rfl, H7.out⟩
        case measure => simp [intOf]; omega
      · obtain ⟨ab, ao, rfl, ah, a0, a1, a2⟩ := HA.out k ha
        have a0' : wr.cell? ⟨ab, ao + k * 3, none⟩ = some (.int .i64 (KA k)) := ((BW.out _ HT.out.bl).cell (p := ⟨ab, ao + k * 3, none⟩) ah).trans a0
        have a1' : wr.cell? ⟨ab, ao + k * 3 + 1, none⟩ = some (.int .i64 (AA k)) := ((BW.out _ HT.out.bl).cell (p := ⟨ab, ao + k * 3 + 1, none⟩) ah).trans a1
        have a2' : wr.cell? ⟨ab, ao + k * 3 + 2, none⟩ = some (.int .i64 (NA k)) := ((BW.out _ HT.out.bl).cell (p := ⟨ab, ao + k * 3 + 2, none⟩) ah).trans a2
        clear a0 a1 a2
        have ta1 : decide ((k : Int) < (la : Int)) = true := by simp only [decide_eq_true_eq]; omega
        have ta2 : (k : Int) < (la : Int) := by omega
        have tb1 : decide ((k : Int) < (lb : Int)) = false := by simp only [decide_eq_false_iff_not]; omega
        have tb2 : ¬ (k : Int) < (lb : Int) := by omega
        have tb3 : ¬ k < lb := hb
        go_wp2_with fail
        refine (step_any HT.out.a _ _ _).mono ?_
        rintro e w6 ⟨T1', l1', c1', g1', r1', rfl, G6, F6, S6⟩
        have H6 : Hid _ := HT.out.turn G6 F6 S6
        clear G6 F6 S6 a0' a1' a2'
        go_wp2_with fail
        go_roundw
        case rel => exact ⟨k + 1, T1', l1', c1', g1', r1', T2, l2, c2, g2, r2, by omega, rfl, by go_num, rfl, rfl, H6.out⟩
        case measure => simp [intOf]; omega
    · by_cases hb : k < lb
      · obtain ⟨bb, bo, rfl, bh, b0, b1, b2⟩ := HB.out k hb
        have b0' : wr.cell? ⟨bb, bo + k * 3, none⟩ = some (.int .i64 (KB k)) := ((BW.out _ HT.out.bl).cell (p := ⟨bb, bo + k * 3, none⟩) bh).trans b0
        have b1' : wr.cell? ⟨bb, bo + k * 3 + 1, none⟩ = some (.int .i64 (AB k)) := ((BW.out _ HT.out.bl).cell (p := ⟨bb, bo + k * 3 + 1, none⟩) bh).trans b1
        have b2' : wr.cell? ⟨bb, bo + k * 3 + 2, none⟩ = some (.int .i64 (NB k)) := ((BW.out _ HT.out.bl).cell (p := ⟨bb, bo + k * 3 + 2, none⟩) bh).trans b2
        clear b0 b1 b2
        have ta1 : decide ((k : Int) < (la : Int)) = false := by simp only [decide_eq_false_iff_not]; omega
        have ta2 : ¬ (k : Int) < (la : Int) := by omega
        have ta3 : ¬ k < la := ha
        have tb1 : decide ((k : Int) < (lb : Int)) = true := by simp only [decide_eq_true_eq]; omega
        have tb2 : (k : Int) < (lb : Int) := by omega
        go_wp2_with fail
        refine (step_any HT.out.b _ _ _).mono ?_
        rintro e w7 ⟨T2', l2', c2', g2', r2', rfl, G7, F7, S7⟩
        have H7 : Hid _ := (HT.out.symm.turn G7 F7 S7).symm
        clear G7 F7 S7 b0' b1' b2'
        go_wp2_with fail
        go_roundw
        case rel => exact ⟨k + 1, T1, l1, c1, g1, r1, T2', l2', c2', g2', r2', by omega, rfl, by go_num, rfl, rfl, H7.out⟩
        case measure => simp [intOf]; omega
      · have ta1 : decide ((k : Int) < (la : Int)) = false := by simp only [decide_eq_false_iff_not]; omega
        have ta2 : ¬ (k : Int) < (la : Int) := by omega
        have ta3 : ¬ k < la := ha
        have tb1 : decide ((k : Int) < (lb : Int)) = false := by simp only [decide_eq_false_iff_not]; omega
        have tb2 : ¬ (k : Int) < (lb : Int) := by omega
        have tb3 : ¬ k < lb := hb
        have n2 := HT.out.a.n2
        have hT2 : (T1.n : Int) ≤ 256 := by omega
        go_wp2_with fail
        go_loopw [15] (fun q wx => ∃ j : Nat, j ≤ T1.n ∧ q = .int .i64 j ∧ Two w1.heap.size w1 wx T1 l1 c1 w3.heap.size g1 r1 T2 l2 c2 (w3.heap.size + 1) g2 r2) (fun q _ => T1.n - (intOf q).toNat)
        case atStart => exact ⟨0, Nat.zero_le _, rfl, HT.out⟩
        case round =>
          clear HT hk ha hb ta1 ta2 ta3 tb1 tb2 tb3
          obtain ⟨k, hk, rfl, ht⟩ := hrel
          have hh := ht.a
          obtain ⟨c0, -⟩ := hh.r.rcell
          have HT : Hid _ := ht
          by_cases hlt : k < T1.n
          · have t1 : decide ((k : Int) < (T1.n : Int)) = true := by simp only [decide_eq_true_eq]; omega
            have t2 : (k : Int) < (T1.n : Int) := by omega
            have hkk : ∀ w2, TS T1 wr w2 → w2.cell? ⟨l1, k, none⟩ = some (.pointer (some ⟨T1.blk k, 0, none⟩)) ∧ w2.cell? ⟨w3.heap.size, 0, none⟩ = some (.slice (some ⟨g1, 0, none⟩) T1.n r1) ∧ w2.cell? ⟨g1, k * 3, none⟩ = some (.int .i64 (pz (T1.par k))) ∧ w2.cell? ⟨g1, k * 3 + 1, none⟩ = some (.int .i64 (T1.left k)) ∧ w2.cell? ⟨g1, k * 3 + 2, none⟩ = some (.int .i64 (T1.cause k)) := by
              intro w2 t
              have q2 := hh.ref t.2
              refine ⟨?_, q2.rcell.1, (q2.cells hlt).1, (q2.cells hlt).2.1, (q2.cells hlt).2.2.1⟩
              exact row_at (row_kept hh.l fun j hj => t.2.block j (hh.l.lt j hj).2 (by simp only [Value.ownBlock, Option.some.injEq] at hj; subst hj; exact hh.nl)) (ptrs_get _ _ k hlt)
            have HU : Hid (∀ w', TS T1 wr w' → Calls Try.prog 8 #[.pointer (some ⟨T1.blk k, 0, none⟩), .agg #[.int .i64 (pz (T1.par k)), .int .i64 (T1.left k), .int .i64 (T1.cause k)]] w' fun e w2 => e = .returned (.bool true) ∧ TS T1 wr w2 ∧ w2.cell? ⟨l1, k, none⟩ = some (.pointer (some ⟨T1.blk k, 0, none⟩)) ∧ w2.cell? ⟨w3.heap.size, 0, none⟩ = some (.slice (some ⟨g1, 0, none⟩) T1.n r1) ∧ w2.cell? ⟨g1, k * 3, none⟩ = some (.int .i64 (pz (T1.par k))) ∧ w2.cell? ⟨g1, k * 3 + 1, none⟩ = some (.int .i64 (T1.left k)) ∧ w2.cell? ⟨g1, k * 3 + 2, none⟩ = some (.int .i64 (T1.cause k))) :=
              fun w' t => (told_true w' t.1 k hlt (pz (T1.par k))).mono fun e w2 ⟨he, h2, s2⟩ => ⟨he, ⟨h2, t.2.trans' s2⟩, hkk w2 ⟨h2, t.2.trans' s2⟩⟩
            have t0 : TS T1 wr wr.drew := TS.drew ⟨hh.h, Same.refl _ _⟩
            obtain ⟨q0, q1, q2, q3, q4⟩ := hkk wr ⟨hh.h, Same.refl _ _⟩
            clear hkk hh ht
            go_wp2_with fail
            go_region_held3 (fun w' => TS T1 wr w' ∧ w'.cell? ⟨l1, k, none⟩ = some (.pointer (some ⟨T1.blk k, 0, none⟩)) ∧ w'.cell? ⟨w3.heap.size, 0, none⟩ = some (.slice (some ⟨g1, 0, none⟩) T1.n r1) ∧ w'.cell? ⟨g1, k * 3, none⟩ = some (.int .i64 (pz (T1.par k))) ∧ w'.cell? ⟨g1, k * 3 + 1, none⟩ = some (.int .i64 (T1.left k)) ∧ w'.cell? ⟨g1, k * 3 + 2, none⟩ = some (.int .i64 (T1.cause k)))
              (first | (refine ⟨?_, ?_, ?_, ?_, ?_, ?_⟩ <;> assumption) | (refine ⟨by assumption, ?_, ?_, ?_, ?_, ?_⟩ <;> go_keep))
              (first | (go_at_call 8; refine Calls.mono (HU.out _ (by assumption)) ?_; rintro e w2 ⟨rfl, k1, k2, k3, k4, k5, k6⟩))
            all_goals
              obtain ⟨y1, y2⟩ := HT.out.a.both (L := T1.left) (C := T1.cause) k1.1 k1.2 (HT.out.a.ref k1.2) (Same.refl _ _) HT.out.a.rng HT.out.a.cl
              have Y1 : Hid _ := HT.out.turn y1 (fun k hk => .inl hk) y2
              clear y1 y2 k1 k2 k3 k4 k5 k6
              go_wp2_with fail
              go_roundw
              case rel => exact ⟨k + 1, hlt, by go_num, Y1.out⟩
              case measure => simp [intOf]; omega
          · have hkn : k = T1.n := by omega
            have t1 : decide ((k : Int) < (T1.n : Int)) = false := by simp only [decide_eq_false_iff_not]; omega
            have e1 : ((T1.n : Int) == (T1.n : Int)) = true := by simp
            have e2 : ((T2.n : Int) == (T2.n : Int)) = true := by simp
            obtain ⟨d0, -⟩ := ht.b.r.rcell
            clear hh ht
            go_wp2_with fail
            go_ret
            exact ⟨rfl, BW.out _ HT.out.bl⟩
end Go.Proofs.Ytkkkndbfokjikab.haltApart
