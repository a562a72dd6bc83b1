/- What is proved: 'play' answers true for every number of beats and every script, and leaves all that was there as it was; the script's cells lie in memory. -/
import Derived.Test.YtkkkndbfokjikaaScript
namespace Go.Proofs.Ytkkkndbfokjikaa
open Go.Conc Go.RowKit

set_option maxRecDepth 100000 in
set_option maxHeartbeats 800000 in
theorem play_no (b : Int) (tv : Value) (w : World) (h : b < 0 ∨ 1099511627776 < b) : Calls Try.prog 10 #[.int .i64 b, tv] w fun e w' => e = .returned (.bool true) ∧ Below w.heap.size w w' := by
  have HN : Hid _ := new_no b w h
  have HR : Hid _ := rnew_no w.heap.size b (w.alloc (.cells #[.slice none 0 0] 40)) h
  clear h
  go_enter Try.func10, Try.ntmps10
  go_wp2_with (first
    | (go_at_call 11; refine Calls.mono HN.out ?_; rintro e w1 ⟨rfl, hw1⟩; subst w1)
    | (go_at_call 18; refine Calls.mono HR.out ?_; rintro e w1 ⟨rfl, hw1⟩; subst w1))
  go_ret
  exact ⟨rfl, (Below.refl _ w).alloc (Nat.le_refl _) _⟩

set_option maxRecDepth 100000 in
set_option maxHeartbeats 3200000 in
theorem play_yes (b : Int) (sa : Option Addr) (len cap : Nat) (K A N : Nat → Int) (w : World) (b0 : 0 ≤ b) (b1 : b ≤ 1099511627776) (hlen : len ≤ maxLen) (hc : Script w sa len K A N) :
    Calls Try.prog 10 #[.int .i64 b, .slice sa len cap] w fun e w' => e = .returned (.bool true) ∧ Below w.heap.size w w' := by
  have hnot : ∀ (x : Bool) (w : World), (Op.unary .not (.bool x)).run Try.prog w = .ok (.bool (!x)) w := fun _ _ => rfl
  unfold maxLen at hlen
  have hlen' : (len : Int) ≤ 9223372036854775807 := by omega
  have HC : Hid _ := hc
  have M0 : Hid _ := b0
  have M1 : Hid _ := b1
  clear hc
  go_enter Try.func10, Try.ntmps10
  go_wp2_with fail
  refine (new_yes b w b0 b1).mono ?_
  rintro e w1 ⟨rfl, sv, h1, f1, s1⟩
  go_wp2_with fail
  refine (rnew_yes w1.heap.size b _ b0 b1 (heap_alloc_new w1 _)).mono ?_
  rintro e w3 ⟨rfl, r3, s3⟩
  rw [World.size_alloc] at r3
  obtain ⟨g4, b4, f4⟩ := seed_group b0 b1 h1 f1 s1 r3 s3
  have G4 : Hid _ := g4
  have B4 : Hid _ := b4
  have F4 : Hid _ := f4
  clear h1 f1 s1 r3 s3 g4 b4 f4 b0 b1
  go_wp2_with fail
  go_loopw [9, 41] (fun l q wx => ∃ (k : Nat) (T : Tr) (lg lcap rg rcap : Nat), k ≤ len ∧ q = .int .i64 k ∧ l = .slice (some ⟨lg, 0, none⟩) T.n lcap ∧ GH wx T lg lcap w1.heap.size rg rcap ∧ Below w.heap.size w wx ∧ ∀ k, FootG T lg w1.heap.size rg k → w.heap.size ≤ k) (fun _ q _ => len - (intOf q).toNat)
  case atStart => exact ⟨0, _, _, _, _, _, Nat.zero_le _, rfl, rfl, G4.out, B4.out, F4.out⟩
  case round =>
    obtain ⟨k, T, lg, lcap, rg, rcap, hk, rfl, rfl, hh, bb, ff⟩ := hrel
    have HH : Hid _ := hh
    have FF : Hid _ := ff
    clear G4 B4 F4 hh ff
    by_cases hlt : k < len
    · obtain ⟨sb, off, rfl, hsb, q0, q1, q2⟩ := HC.out k hlt
      have q0' : wr.cell? ⟨sb, off + k * 3, none⟩ = some (.int .i64 (K k)) := (bb.cell (p := ⟨sb, off + k * 3, none⟩) hsb).trans q0
      have q1' : wr.cell? ⟨sb, off + k * 3 + 1, none⟩ = some (.int .i64 (A k)) := (bb.cell (p := ⟨sb, off + k * 3 + 1, none⟩) hsb).trans q1
      have q2' : wr.cell? ⟨sb, off + k * 3 + 2, none⟩ = some (.int .i64 (N k)) := (bb.cell (p := ⟨sb, off + k * 3 + 2, none⟩) hsb).trans q2
      clear q0 q1 q2
      go_wp2_with fail
      refine (step_any ((HH.out.box _).1) _ _ _).mono ?_
      rintro e w4 ⟨T', lg', lcap', rg', rcap', rfl, g5, f5, s5⟩
      have G5 : Hid _ := g5
      have B5 : Hid (Below w.heap.size w w4) := by
        have z := bb.size
        exact (bb.alloc z _).trans (s5.below (by simp; omega) FF.out)
      have F5 : Hid (∀ k, FootG T' lg' w1.heap.size rg' k → w.heap.size ≤ k) := fun k hk => by
        have z := bb.size
        rcases f5 k hk with h | h
        · exact FF.out k h
        · simp at h; omega
      clear g5 f5 s5 q0' q1' q2'
      go_wp2_with fail
      go_roundw
      case rel => exact ⟨k + 1, T', lg', lcap', rg', rcap', hlt, by go_num, rfl, G5.out, B5.out, F5.out⟩
      case measure => simp [intOf]; omega
    · have hkl : k = len := by omega
      subst hkl
      have BB : Hid _ := bb
      have n2 := HH.out.n2
      have hT2 : (T.n : Int) ≤ 256 := by omega
      clear bb
      go_wp2_with fail
      go_loopw [14] (fun q wx => ∃ j : Nat, j ≤ T.n ∧ q = .int .i64 j ∧ GH wx T lg lcap w1.heap.size rg rcap ∧ Below w.heap.size w wx) (fun q _ => T.n - (intOf q).toNat)
      case atStart => exact ⟨0, Nat.zero_le _, rfl, HH.out, BB.out⟩
      case round =>
        clear BB HH
        obtain ⟨k, hk, rfl, hh, bb⟩ := hrel
        obtain ⟨c0, -⟩ := hh.r.rcell
        have HH : Hid _ := hh
        have BB : Hid _ := bb
        by_cases hlt : k < T.n
        · have t1 : decide ((k : Int) < (T.n : Int)) = true := by simp only [decide_eq_true_eq]; omega
          have t2 : (k : Int) < (T.n : Int) := by omega
          have hkk : ∀ w2, TS T wr w2 → w2.cell? ⟨lg, k, none⟩ = some (.pointer (some ⟨T.blk k, 0, none⟩)) ∧ w2.cell? ⟨w1.heap.size, 0, none⟩ = some (.slice (some ⟨rg, 0, none⟩) T.n rcap) ∧ w2.cell? ⟨rg, k * 3, none⟩ = some (.int .i64 (pz (T.par k))) ∧ w2.cell? ⟨rg, k * 3 + 1, none⟩ = some (.int .i64 (T.left k)) ∧ w2.cell? ⟨rg, k * 3 + 2, none⟩ = some (.int .i64 (T.cause k)) := by
            intro w2 t
            have r2 := hh.ref t.2
            refine ⟨?_, r2.rcell.1, (r2.cells hlt).1, (r2.cells hlt).2.1, (r2.cells hlt).2.2.1⟩
            exact row_at (row_kept hh.l fun j hj => t.2.block j (hh.l.lt j hj).2 (by simp only [Value.ownBlock, Option.some.injEq] at hj; subst hj; exact hh.nl)) (ptrs_get _ _ k hlt)
          have HT : Hid (∀ w', TS T wr w' → Calls Try.prog 20 #[.pointer (some ⟨T.blk k, 0, none⟩), .agg #[.int .i64 (pz (T.par k)), .int .i64 (T.left k), .int .i64 (T.cause k)]] w' fun e w2 => e = .returned (.bool true) ∧ TS T wr w2 ∧ w2.cell? ⟨lg, k, none⟩ = some (.pointer (some ⟨T.blk k, 0, none⟩)) ∧ w2.cell? ⟨w1.heap.size, 0, none⟩ = some (.slice (some ⟨rg, 0, none⟩) T.n rcap) ∧ w2.cell? ⟨rg, k * 3, none⟩ = some (.int .i64 (pz (T.par k))) ∧ w2.cell? ⟨rg, k * 3 + 1, none⟩ = some (.int .i64 (T.left k)) ∧ w2.cell? ⟨rg, k * 3 + 2, none⟩ = some (.int .i64 (T.cause k))) :=
            fun w' t => (told_true w' t.1 k hlt (pz (T.par k))).mono fun e w2 ⟨he, h2, s2⟩ => ⟨he, ⟨h2, t.2.trans' s2⟩, hkk w2 ⟨h2, t.2.trans' s2⟩⟩
          have t0 : TS T wr wr.drew := TS.drew ⟨hh.h, Same.refl _ _⟩
          obtain ⟨q0, q1, q2, q3, q4⟩ := hkk wr ⟨hh.h, Same.refl _ _⟩
          clear hkk hh bb
          go_wp2_with fail
          go_region_held3 (fun w' => TS T wr w' ∧ w'.cell? ⟨lg, k, none⟩ = some (.pointer (some ⟨T.blk k, 0, none⟩)) ∧ w'.cell? ⟨w1.heap.size, 0, none⟩ = some (.slice (some ⟨rg, 0, none⟩) T.n rcap) ∧ w'.cell? ⟨rg, k * 3, none⟩ = some (.int .i64 (pz (T.par k))) ∧ w'.cell? ⟨rg, k * 3 + 1, none⟩ = some (.int .i64 (T.left k)) ∧ w'.cell? ⟨rg, k * 3 + 2, none⟩ = some (.int .i64 (T.cause k)))
            (first | (refine ⟨?_, ?_, ?_, ?_, ?_, ?_⟩ <;> assumption) | (refine ⟨by assumption, ?_, ?_, ?_, ?_, ?_⟩ <;> go_keep))
            (first | (go_at_call 20; refine Calls.mono (HT.out _ (by assumption)) ?_; rintro e w2 ⟨rfl, k1, k2, k3, k4, k5, k6⟩))
          all_goals
            obtain ⟨y1, y2⟩ := HH.out.both (L := T.left) (C := T.cause) k1.1 k1.2 (HH.out.ref k1.2) (Same.refl _ _) HH.out.rng HH.out.cl
            have Y1 : Hid _ := y1
            have B2 : Hid (Below w.heap.size w w2) := by
              have z := BB.out.size
              exact BB.out.trans (y2.below z FF.out)
            clear y1 y2 k1 k2 k3 k4 k5 k6
            go_wp2_with fail
            go_roundw
            case rel => exact ⟨k + 1, hlt, by go_num, Y1.out, B2.out⟩
            case measure => simp [intOf]; omega
        · have hkn : k = T.n := by omega
          have t1 : decide ((k : Int) < (T.n : Int)) = false := by simp only [decide_eq_false_iff_not]; omega
          have te : ((T.n : Int) == (T.n : Int)) = true := by simp
          clear hh bb
          go_wp2_with fail
          go_ret
          exact ⟨rfl, BB.out⟩
end Go.Proofs.Ytkkkndbfokjikaa
