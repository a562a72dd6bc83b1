/- What is proved: the methods of a stop that is alone in its tree, told by its beats and its cause alone; nothing below a given block turns. -/
import Derived.Test.YtkkkndbfokjikabAnchor
namespace Go.Proofs.Ytkkkndbfokjikab
open Go.Conc Go.RowKit

/-- In world w the stop at block b is alone in its tree, with l beats left and cause c; the tree lies from block lo on. -/
def One (b lo : Nat) (w : World) (l c : Int) : Prop := ∃ T : Tr, Holds 0 w T ∧ T.n = 1 ∧ T.par 0 = none ∧ T.blk 0 = b ∧ T.left 0 = l ∧ T.cause 0 = c ∧ ∀ k, Foot T k → lo ≤ k

theorem one_lo {T : Tr} {m : Int} {w w' : World} {lo : Nat} (h : Holds m w T) (hl : ∀ k, Foot T k → lo ≤ k) (hs : Same (Foot T) w w') : Below lo w w' :=
  hs.below (by have h1 := hl _ (.inl rfl); have h2 := h.lt (.inl rfl); omega) hl

theorem one_new (w : World) (b : Int) (h0 : 0 ≤ b) (h1 : b ≤ 1099511627776) : Calls Try.prog 5 #[.int .i64 b] w fun e w' =>
    e = .returned (.tuple #[.pointer (some ⟨w.heap.size + 2, 0, none⟩), .int .i64 0]) ∧ One (w.heap.size + 2) w.heap.size w' b 0 ∧ Below w.heap.size w w' := by
  refine (new_yes b w h0 h1).mono ?_
  rintro e w1 ⟨rfl, sv, h, f, s⟩
  exact ⟨rfl, ⟨_, h, rfl, rfl, rfl, rfl, rfl, f⟩, s.below (Nat.le_refl _) fun _ h => h.elim⟩
theorem one_left (b lo : Nat) (w : World) (l c : Int) (h : One b lo w l c) : Calls Try.prog 20 #[.pointer (some ⟨b, 0, none⟩)] w fun e w' => e = .returned (.int .i64 l) ∧ One b lo w' l c ∧ Below lo w w' := by
  obtain ⟨T, h, hn, hp, rfl, rfl, rfl, hl⟩ := h
  refine (left_any w h 0 (by omega)).mono ?_
  rintro e w1 ⟨rfl, h1, s1⟩
  exact ⟨rfl, ⟨T, h1, hn, hp, rfl, rfl, rfl, hl⟩, one_lo h hl s1⟩
theorem one_cause (b lo : Nat) (w : World) (l c : Int) (h : One b lo w l c) : Calls Try.prog 11 #[.pointer (some ⟨b, 0, none⟩)] w fun e w' => e = .returned (.int .i64 c) ∧ One b lo w' l c ∧ Below lo w w' := by
  obtain ⟨T, h, hn, hp, rfl, rfl, rfl, hl⟩ := h
  refine (cause_any w h 0 (by omega)).mono ?_
  rintro e w1 ⟨rfl, h1, s1⟩
  exact ⟨rfl, ⟨T, h1, hn, hp, rfl, rfl, rfl, hl⟩, one_lo h hl s1⟩
theorem one_stopped (b lo : Nat) (w : World) (l c : Int) (v : Bool) (hv : (!(c == 0)) = v) (h : One b lo w l c) : Calls Try.prog 9 #[.pointer (some ⟨b, 0, none⟩)] w fun e w' => e = .returned (.bool v) ∧ One b lo w' l c ∧ Below lo w w' := by
  obtain ⟨T, h, hn, hp, rfl, rfl, rfl, hl⟩ := h
  refine (stopped_val w h 0 (by omega) _ rfl v hv).mono ?_
  rintro e w1 ⟨rfl, h1, s1⟩
  exact ⟨rfl, ⟨T, h1, hn, hp, rfl, rfl, rfl, hl⟩, one_lo h hl s1⟩
theorem one_cancel_dead (b lo : Nat) (w : World) (l c : Int) (hc : c ≠ 0) (h : One b lo w l c) : Calls Try.prog 17 #[.pointer (some ⟨b, 0, none⟩)] w fun e w' => e = .returned (.bool false) ∧ One b lo w' l c ∧ Below lo w w' := by
  obtain ⟨T, h, hn, hp, rfl, rfl, rfl, hl⟩ := h
  refine (cancel_dead w h 0 (by omega) hc).mono ?_
  rintro e w1 ⟨rfl, h1, s1⟩
  exact ⟨rfl, ⟨T, h1, hn, hp, rfl, rfl, rfl, hl⟩, one_lo h hl s1⟩
theorem one_beat_dead (b lo : Nat) (w : World) (l c : Int) (hc : c ≠ 0) (h : One b lo w l c) : Calls Try.prog 10 #[.pointer (some ⟨b, 0, none⟩)] w fun e w' => e = .returned (.bool false) ∧ One b lo w' l c ∧ Below lo w w' := by
  obtain ⟨T, h, hn, hp, rfl, rfl, rfl, hl⟩ := h
  refine (beat_dead w h 0 (by omega) hc).mono ?_
  rintro e w1 ⟨rfl, h1, s1⟩
  exact ⟨rfl, ⟨T, h1, hn, hp, rfl, rfl, rfl, hl⟩, one_lo h hl s1⟩
theorem one_take (b lo : Nat) (w : World) (l : Int) (h0 : 0 < l) (h1 : l ≤ 1099511627776) (h : One b lo w l 0) : Calls Try.prog 10 #[.pointer (some ⟨b, 0, none⟩)] w fun e w' => e = .returned (.bool true) ∧ One b lo w' (l - 1) 0 ∧ Below lo w w' := by
  obtain ⟨T, h, hn, hp, rfl, rfl, hc, hl⟩ := h
  refine (beat_take w h ?_ 0 (by omega) hc ?_).mono ?_
  · intro k hk
    rw [hn] at hk
    obtain rfl : k = 0 := by omega
    omega
  · rw [spent_root _ _ hp, if_neg (by simp; omega)]
  rintro e w1 ⟨rfl, h2, s1⟩
  refine ⟨rfl, ⟨mTake T 0, h2, hn, hp, rfl, ?_, hc, hl⟩, one_lo h hl s1⟩
  show dec T.par T.left 0 0 = _
  rw [dec_root _ _ hp, upd_same]
theorem one_spent (b lo : Nat) (w : World) (h : One b lo w 0 0) : Calls Try.prog 10 #[.pointer (some ⟨b, 0, none⟩)] w fun e w' => e = .returned (.bool false) ∧ One b lo w' 0 2 ∧ Below lo w w' := by
  obtain ⟨T, h, hn, hp, rfl, hz, hc, hl⟩ := h
  refine (beat_spent w h ?_ 0 (by omega) hc 0 ?_).mono ?_
  · intro k p hk e
    rw [hn] at hk
    obtain rfl : k = 0 := by omega
    rw [hp] at e
    cases e
  · rw [spent_root _ _ hp, if_pos (by simp [hz])]
  rintro e w1 ⟨rfl, h2, s1⟩
  refine ⟨rfl, ⟨mSpent T 0, h2, hn, hp, rfl, hz, ?_, hl⟩, one_lo h hl s1⟩
  show sw T.par (upd T.cause 0 2) T.n 0 = 2
  rw [hn, sw_one _ _ hp, upd_same]
end Go.Proofs.Ytkkkndbfokjikab
