/- What is proved: 'stop' of the document's own tree leaves the causes that the sweep of all stops leaves; the tree is closed and the stop is live. -/
import Derived.Test.YtkkkndbfokjikabRefA
namespace Go.Proofs.Ytkkkndbfokjikab
open Go.Conc Go.RowKit

/-- Up to stop i the sweep finds nothing to do. -/
theorem sw_low (par : Nat → Option Nat) (cause : Nat → Int) (n i : Nat) (c : Int) (hi : i < n) (hc : c ≠ 0) (hp : ∀ k p, k < n → par k = some p → p < k) (hcl : Closed par cause n) : ∀ k, k ≤ i + 1 → sw par (upd cause i c) k = upd cause i c := by
  intro k
  induction k with
  | zero => intro _; rfl
  | succ k ih =>
    intro hk
    show swS par (sw par (upd cause i c) k) k = _
    rw [ih (by omega)]
    unfold swS
    rw [if_neg]
    intro h
    simp only [Bool.and_eq_true, beq_iff_eq] at h
    obtain ⟨h1, h2⟩ := h
    by_cases e : k = i
    · subst e; rw [upd_same] at h2; exact hc h2
    · rw [upd_other _ _ e] at h2
      unfold hit at h1
      cases hpar : par k with
      | none => simp [hpar] at h1
      | some p =>
        have hpk := hp k p (by omega) hpar
        rw [hpar] at h1
        simp only [upd_other cause c (show p ≠ i by omega)] at h1
        exact hcl k p (by omega) hpar (by simpa using h1) h2

set_option maxRecDepth 100000 in
set_option maxHeartbeats 800000 in
theorem rstop_any {w : World} {rb g cap n : Nat} {par : Nat → Option Nat} {left cause : Nat → Int} (h : RefH w rb g cap n par left cause) (hp : ∀ k p, k < n → par k = some p → p < k) (hs : ∀ k, 0 < k → k < n → ∃ p, par k = some p)
    (hcl : Closed par cause n) (i : Nat) (hi : i < n) (c : Int) (hc : c ≠ 0) (hn : n ≤ 1000) :
    Calls Try.prog 27 #[.pointer (some ⟨rb, 0, none⟩), .int .i64 i, .int .i64 c] w fun e w' => e = .returned (.tuple #[]) ∧ RefH w' rb g cap n par left (sw par (upd cause i c) n) ∧ Same (fun k => k = rb ∨ k = g) w w' := by
  obtain ⟨c0, f0⟩ := h.rcell
  obtain ⟨-, -, c2, -, f2⟩ := h.cells hi
  have hin : (i : Int) < (n : Int) := by omega
  have hn' : (n : Int) ≤ 1000 := by omega
  have HL : Hid _ := sw_low par cause n i c hi hc hp hcl
  have HS : Hid _ := h.setCause hi c
  have HP : Hid _ := hp
  have HQ : Hid _ := hs
  clear h hp hs hcl
  go_enter Try.func27, Try.ntmps27
  go_wp2_with fail
  go_loopw [6] (fun q wx => ∃ k : Nat, i + 1 ≤ k ∧ k ≤ n ∧ q = .int .i64 k ∧ RefH wx rb g cap n par left (sw par (upd cause i c) k) ∧ Same (fun k => k = rb ∨ k = g) w wx) (fun q _ => n - (intOf q).toNat)
  case atStart => exact ⟨i + 1, Nat.le_refl _, hi, by go_num, by rw [HL.out (i + 1) (Nat.le_refl _)]; exact HS.out, same_ref w rb g _ _⟩
  case round =>
    obtain ⟨k, hk1, hk2, rfl, hh, ss⟩ := hrel
    have HH : Hid _ := hh
    have SS : Hid _ := ss
    obtain ⟨d0, -⟩ := hh.rcell
    clear c0 f0 c2 f2 ss HS HL
    by_cases hlt : k < n
    · obtain ⟨p, hpar⟩ := HQ.out k (by omega) hlt
      have hpk := HP.out k p hlt hpar
      obtain ⟨e0, -, e2, -, z2⟩ := hh.cells hlt
      obtain ⟨-, -, e2', -, -⟩ := hh.cells (show p < n by omega)
      rw [hpar, pz_some] at e0
      have hkl : (k : Int) < (n : Int) := by omega
      have hpl : (p : Int) < (n : Int) := by omega
      have HT : Hid _ := hh.setCause hlt 3
      have HPar : Hid _ := hpar
      clear hh hpar
      by_cases hz : (sw par (upd cause i c) k k == 0) = true
      · by_cases hy : (sw par (upd cause i c) k p != 0) = true
        · have HC : Hid (sw par (upd cause i c) (k + 1) = upd (sw par (upd cause i c) k) k 3) := by
            show swS _ _ _ = _
            have hy' : (!(sw par (upd cause i c) k p == 0)) = true := hy
            simp only [swS, hit, HPar.out, hy', hz, Bool.and_self, if_true]
          go_wp2_with fail
          go_quiet (fail)
          go_wp2_with fail
          go_roundw
          case rel => exact ⟨k + 1, by omega, by omega, by go_num, by rw [HC.out]; exact ⟨HT.out.tree, HT.out.cur⟩, (have z := SS.out.setCell ⟨g, k * 3 + 2, none⟩ (.inr (.inr rfl)) (.int .i64 3); ⟨z.os, z.tape, z.output, z.size, z.block⟩)⟩
          case measure => simp [intOf]; omega
        · have hy' : (sw par (upd cause i c) k p != 0) = false := by simpa using hy
          have HC : Hid (sw par (upd cause i c) (k + 1) = sw par (upd cause i c) k) := by
            show swS _ _ _ = _
            have hy2 : (!(sw par (upd cause i c) k p == 0)) = false := hy'
            simp only [swS, hit, HPar.out, hy2, Bool.false_and, Bool.false_eq_true, if_false]
          clear hy
          go_wp2_with fail
          go_quiet (fail)
          go_wp2_with fail
          go_roundw
          case rel => exact ⟨k + 1, by omega, by omega, by go_num, by rw [HC.out]; exact ⟨HH.out.tree, HH.out.cur⟩, ⟨SS.out.os, SS.out.tape, SS.out.output, SS.out.size, SS.out.block⟩⟩
          case measure => simp [intOf]; omega
      · have hz' : (sw par (upd cause i c) k k == 0) = false := by simpa using hz
        have HC : Hid (sw par (upd cause i c) (k + 1) = sw par (upd cause i c) k) := by
          show swS _ _ _ = _
          simp only [swS, hz', Bool.and_false, Bool.false_eq_true, if_false]
        clear hz
        go_wp2_with fail
        go_quiet (fail)
        go_wp2_with fail
        go_roundw
        case rel => exact ⟨k + 1, by omega, by omega, by go_num, by rw [HC.out]; exact ⟨HH.out.tree, HH.out.cur⟩, ⟨SS.out.os, SS.out.tape, SS.out.output, SS.out.size, SS.out.block⟩⟩
        case measure => simp [intOf]; omega
    · have hkn : k = n := by omega
      subst hkn
      clear hh
      go_wp2_with fail
      go_end0
      exact ⟨rfl, HH.out, SS.out⟩
end Go.Proofs.Ytkkkndbfokjikab
