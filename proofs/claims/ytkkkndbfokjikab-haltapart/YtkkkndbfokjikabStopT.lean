/- What is proved: 'stop' of a tree ends the one stop and then, in the order of making, each live stop whose parent is stopped; nothing outside the tree turns; the tree lies in memory and the stop is live. -/
import Derived.Test.YtkkkndbfokjikabEnd
namespace Go.Proofs.Ytkkkndbfokjikab
open Go.Conc Go.RowKit Go.MuLone

theorem Holds.slice {m : Int} {w : World} {T : Tr} (h : Holds m w T) {i : Nat} (hi : i < T.n) : ∃ g cap, T.sv = .slice (some ⟨g, 0, none⟩) T.n cap ∧ T.n ≤ cap ∧ cap ≤ maxLen := by
  rcases h.row.2 with ⟨_, h0⟩ | ⟨g, cap, cur, hv, _, _, h1, h2, _⟩
  · omega
  · exact ⟨g, cap, hv, h1, h2⟩
theorem Holds.at {m : Int} {w : World} {T : Tr} (h : Holds m w T) {g cap : Nat} (hv : T.sv = .slice (some ⟨g, 0, none⟩) T.n cap) {i : Nat} (hi : i < T.n) : w.cell? ⟨g, i, none⟩ = some (.pointer (some ⟨T.blk i, 0, none⟩)) := by
  have := h.row.cells (g := g) (by rw [hv]; rfl) i _ (ptrs_get T.blk T.n i hi)
  have hadd : (⟨g, 0, none⟩ : Addr).add i = ⟨g, i, none⟩ := by unfold Addr.add; split <;> simp_all
  rwa [hadd] at this
theorem Holds.cells {m : Int} {w : World} {T : Tr} (h : Holds m w T) {i : Nat} (hi : i < T.n) : w.cell? ⟨T.blk i, 0, none⟩ = some (.pointer (some ⟨T.tb, 0, none⟩)) ∧ w.cell? ⟨T.blk i, 1, none⟩ = some (.pointer ((T.par i).map fun p => ⟨T.blk p, 0, none⟩)) ∧ w.cell? ⟨T.blk i, 2, none⟩ = some (.int .i64 (T.left i)) ∧ w.cell? ⟨T.blk i, 3, none⟩ = some (.int .i64 (T.cause i)) ∧ w.cell? ⟨T.blk i, 4, none⟩ = some (.chan (some (T.ch i))) := by
  have hb := h.stop i hi
  have e := cell_of hb
  refine ⟨(e 0).trans rfl, (e 1).trans ?_, (e 2).trans rfl, (e 3).trans rfl, (e 4).trans rfl⟩
  cases T.par i <;> rfl
theorem Holds.tcell {m : Int} {w : World} {T : Tr} (h : Holds m w T) : w.cell? ⟨T.tb, 0, none⟩ = some (.int .i32 m) ∧ w.cell? ⟨T.tb, 2, none⟩ = some T.sv ∧ w.frozen? ⟨T.tb, 0, none⟩ = false ∧ w.frozen? ⟨T.tb, 2, none⟩ = false :=
  ⟨(cell_of h.tree 0).trans rfl, (cell_of h.tree 2).trans rfl, frozen_of h.tree 0, frozen_of h.tree 2⟩

/-- 'ended', of a stop of a tree. -/
theorem ended_any {m : Int} {T : Tr} (w : World) (h : Holds m w T) (i : Nat) (hi : i < T.n) :
    Calls Try.prog 23 #[.pointer (some ⟨T.blk i, 0, none⟩)] w fun e w' => e = .returned (.bool (!(T.cause i == 0))) ∧ w' = w := by
  have hc := h.chan i hi
  obtain ⟨-, -, -, -, h4⟩ := h.cells hi
  by_cases e : T.cause i = 0
  · simp only [e, beq_self_eq_true, Bool.not_true] at hc ⊢
    exact ended_open _ _ _ h4 hc
  · have e' : (T.cause i == 0) = false := by simp [e]
    simp only [chanObj, e', Bool.not_false] at hc ⊢
    exact ended_shut _ _ _ h4 hc

/-- 'end', of a stop of a tree: the first end counts. -/
theorem end_any {m : Int} {T : Tr} (w : World) (h : Holds m w T) (i : Nat) (hi : i < T.n) (c : Int) (hc : c ≠ 0) :
    Calls Try.prog 26 #[.pointer (some ⟨T.blk i, 0, none⟩), .int .i64 c] w fun e w' => e = .returned (.tuple #[]) ∧ Holds m w' { T with cause := if T.cause i = 0 then upd T.cause i c else T.cause } ∧ Same (Foot T) w w' := by
  by_cases e : T.cause i = 0
  · have hb := h.stop i hi
    have hch := h.chan i hi
    rw [e] at hb hch
    refine (end_first _ _ _ _ _ c w hc hb hch).mono ?_
    rintro e1 w1 ⟨rfl, h1, h2, h3⟩
    refine ⟨rfl, ?_, h3.mono fun k _ hk => .inr (.inr ⟨i, hi, hk⟩)⟩
    have := h.turn hi (T.left i) c h3 h1 h2
    have hl : upd T.left i (T.left i) = T.left := by funext k; by_cases hk : k = i <;> simp [upd, hk]
    rw [hl] at this
    simpa only [e, if_true] using this
  · refine (end_done _ _ _ _ _ _ c w e (h.stop i hi) (fun _ => False)).mono ?_
    rintro e1 w1 ⟨rfl, h1⟩
    refine ⟨rfl, ?_, h1.mono fun _ _ hk => hk.elim⟩
    rw [if_neg e]
    exact h.kept h1 fun _ _ hk => hk

set_option maxRecDepth 100000 in
set_option maxHeartbeats 800000 in
theorem stop_any {m : Int} {T : Tr} (w : World) (h : Holds m w T) (i : Nat) (hi : i < T.n) (c : Int) (hc : c ≠ 0) (h0 : T.cause i = 0) :
    Calls Try.prog 25 #[.pointer (some ⟨T.tb, 0, none⟩), .pointer (some ⟨T.blk i, 0, none⟩), .int .i64 c] w fun e w' => e = .returned (.tuple #[]) ∧ Holds m w' { T with cause := sw T.par (upd T.cause i c) T.n } ∧ Same (Foot T) w w' := by
  have H0 : Hid _ := end_any w h i hi c hc
  obtain ⟨g, cap, hv, hnc, hcm⟩ := h.slice hi
  unfold maxLen at hcm
  have Hv : Hid _ := hv
  have hn : (T.n : Int) ≤ 9223372036854775807 := by omega
  clear hv
  go_enter Try.func25, Try.ntmps25
  go_wp2_with (go_at_call 26; refine Calls.mono H0.out ?_; rintro e w1 ⟨rfl, h1, s1⟩; rw [if_pos h0] at h1; have t2 : w1.cell? ⟨T.tb, 2, none⟩ = some (.slice (some ⟨g, 0, none⟩) T.n cap) := (by rw [← Hv.out]; exact h1.tcell.2.1))
  go_loopw [16] (fun q wx => ∃ k : Nat, k ≤ T.n ∧ q = .int .i64 k ∧ Holds m wx { T with cause := sw T.par (upd T.cause i c) k } ∧ Same (Foot T) w wx) (fun q _ => T.n - (intOf q).toNat)
  case atStart => exact ⟨0, Nat.zero_le _, rfl, h1, s1⟩
  case round =>
    obtain ⟨k, hk, rfl, hh, ss⟩ := hrel
    by_cases hlt : k < T.n
    · have hat : wr.cell? ⟨g, k, none⟩ = some (.pointer (some ⟨T.blk k, 0, none⟩)) := hh.at Hv.out hlt
      have hp : wr.cell? ⟨T.blk k, 1, none⟩ = some (.pointer ((T.par k).map fun p => ⟨T.blk p, 0, none⟩)) := (hh.cells hlt).2.1
      cases hpar : T.par k with
      | none =>
        have hp' : wr.cell? ⟨T.blk k, 1, none⟩ = some (.pointer none) := by rw [hp, hpar]; rfl
        have HC : Hid (sw T.par (upd T.cause i c) (k + 1) = sw T.par (upd T.cause i c) k) := by show swS _ _ _ = _; simp [swS, hit, hpar]
        clear hp hpar
        go_wp2
        go_roundw
        case rel => exact ⟨k + 1, by omega, by go_num, by rw [HC.out]; exact hh, ss⟩
        case measure => simp [intOf]; omega
      | some p =>
        have hpk : p < k := hh.par k p hlt hpar
        have hp' : wr.cell? ⟨T.blk k, 1, none⟩ = some (.pointer (some ⟨T.blk p, 0, none⟩)) := by rw [hp, hpar]; rfl
        have HE : Hid _ := ended_any wr hh p (show p < T.n by omega)
        by_cases hz : sw T.par (upd T.cause i c) k p = 0
        · have HC : Hid (sw T.par (upd T.cause i c) (k + 1) = sw T.par (upd T.cause i c) k) := by show swS _ _ _ = _; simp [swS, hit, hpar, hz]
          have HE' : Hid (Calls Try.prog 23 #[.pointer (some ⟨T.blk p, 0, none⟩)] wr fun e w' => e = .returned (.bool false) ∧ w' = wr) := by
            have := HE.out; simp only [hz] at this; exact this
          clear hp hpar hz HE
          go_wp2_with (go_at_call 23; refine Calls.mono HE'.out ?_; rintro e w2 ⟨rfl, rfl⟩)
          go_roundw
          case rel => exact ⟨k + 1, by omega, by go_num, by rw [HC.out]; exact hh, ss⟩
          case measure => simp [intOf]; omega
        · have HC : Hid (sw T.par (upd T.cause i c) (k + 1) = if sw T.par (upd T.cause i c) k k = 0 then upd (sw T.par (upd T.cause i c) k) k 3 else sw T.par (upd T.cause i c) k) := by show swS _ _ _ = _; simp [swS, hit, hpar, hz]
          have HE' : Hid (Calls Try.prog 23 #[.pointer (some ⟨T.blk p, 0, none⟩)] wr fun e w' => e = .returned (.bool true) ∧ w' = wr) := by
            have := HE.out; simp only [beq_eq_false_iff_ne.2 hz] at this; exact this
          have HF : Hid _ := end_any wr hh k hlt 3 (by decide)
          clear hp hpar hz HE
          go_wp2_with (first
            | (go_at_call 23; refine Calls.mono HE'.out ?_; rintro e w2 ⟨rfl, rfl⟩)
            | (go_at_call 26; refine Calls.mono HF.out ?_; rintro e w2 ⟨rfl, h2, s2⟩))
          go_roundw
          case rel => exact ⟨k + 1, by omega, by go_num, by rw [HC.out]; exact h2, ss.trans' s2⟩
          case measure => simp [intOf]; omega
    · have hkn : k = T.n := by omega
      subst hkn
      go_wp2
      go_end0
      exact ⟨rfl, hh, ss⟩
end Go.Proofs.Ytkkkndbfokjikab
