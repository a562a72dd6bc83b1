/- What is proved: Left, Cause, Stopped and Cancel of a stop of a tree that lies in memory with its lock free: what each answers, and what it leaves of the tree; nothing outside the tree turns. -/
import Derived.Test.YtkkkndbfokjikabSpent
namespace Go.Proofs.Ytkkkndbfokjikab
open Go.Conc Go.RowKit Go.MuLone

/-- What holds of the world behind a method that asks: the tree is as it was. -/
theorem asked {T : Tr} {w : World} (h : Holds 0 w T) : Holds 0 ((w.setCell ⟨T.tb, 0, none⟩ (.int .i32 1)).setCell ⟨T.tb, 0, none⟩ (.int .i32 0)) T ∧ Same (Foot T) w ((w.setCell ⟨T.tb, 0, none⟩ (.int .i32 1)).setCell ⟨T.tb, 0, none⟩ (.int .i32 0)) :=
  ⟨(h.lock 1).lock 0, (same_lock w T _).trans' (same_lock _ T _)⟩

set_option maxRecDepth 100000 in
set_option maxHeartbeats 800000 in
theorem left_any {T : Tr} (w : World) (h : Holds 0 w T) (i : Nat) (hi : i < T.n) :
    Calls Try.prog 20 #[.pointer (some ⟨T.blk i, 0, none⟩)] w fun e w' => e = .returned (.int .i64 (T.left i)) ∧ Holds 0 w' T ∧ Same (Foot T) w w' := by
  obtain ⟨c0, -, f0, -⟩ := h.tcell
  obtain ⟨a0, -, -, -, -⟩ := h.cells hi
  obtain ⟨b0, -, b2, -, -⟩ := (h.lock 1).cells hi
  obtain ⟨g0, -, z0, -⟩ := (h.lock 1).tcell
  have HA : Hid _ := asked h
  clear h
  go_enter_defers Try.func20, Try.ntmps20
  go_wp2_with (go_at_call 21; refine (lock_free Try.muLib ⟨T.tb, 0, none⟩ _ c0 f0).mono ?_; rintro e w' ⟨rfl, rfl⟩)
  refine leaves_cons (f := 22) (args := #[.pointer (some ⟨T.tb, 0, none⟩)]) (by simp) (by simp [go_sem]) ?_
  refine (unlock_deferred Try.muLib ⟨T.tb, 0, none⟩ .returning _ g0 z0).mono ?_
  rintro e u' w'' ⟨rfl, rfl, rfl⟩
  exact ⟨_, results_tmp rfl _ _ _, rfl, HA.out⟩

set_option maxRecDepth 100000 in
set_option maxHeartbeats 800000 in
theorem cause_any {T : Tr} (w : World) (h : Holds 0 w T) (i : Nat) (hi : i < T.n) :
    Calls Try.prog 11 #[.pointer (some ⟨T.blk i, 0, none⟩)] w fun e w' => e = .returned (.int .i64 (T.cause i)) ∧ Holds 0 w' T ∧ Same (Foot T) w w' := by
  obtain ⟨c0, -, f0, -⟩ := h.tcell
  obtain ⟨a0, -, -, -, -⟩ := h.cells hi
  obtain ⟨b0, -, -, b3, -⟩ := (h.lock 1).cells hi
  obtain ⟨g0, -, z0, -⟩ := (h.lock 1).tcell
  have HA : Hid _ := asked h
  clear h
  go_enter_defers Try.func11, Try.ntmps11
  go_wp2_with (go_at_call 21; refine (lock_free Try.muLib ⟨T.tb, 0, none⟩ _ c0 f0).mono ?_; rintro e w' ⟨rfl, rfl⟩)
  refine leaves_cons (f := 22) (args := #[.pointer (some ⟨T.tb, 0, none⟩)]) (by simp) (by simp [go_sem]) ?_
  refine (unlock_deferred Try.muLib ⟨T.tb, 0, none⟩ .returning _ g0 z0).mono ?_
  rintro e u' w'' ⟨rfl, rfl, rfl⟩
  exact ⟨_, results_tmp rfl _ _ _, rfl, HA.out⟩

set_option maxRecDepth 100000 in
set_option maxHeartbeats 800000 in
theorem stopped_any {T : Tr} (w : World) (h : Holds 0 w T) (i : Nat) (hi : i < T.n) :
    Calls Try.prog 9 #[.pointer (some ⟨T.blk i, 0, none⟩)] w fun e w' => e = .returned (.bool (!(T.cause i == 0))) ∧ Holds 0 w' T ∧ Same (Foot T) w w' := by
  obtain ⟨c0, -, f0, -⟩ := h.tcell
  obtain ⟨a0, -, -, -, -⟩ := h.cells hi
  obtain ⟨b0, -, -, -, -⟩ := (h.lock 1).cells hi
  obtain ⟨g0, -, z0, -⟩ := (h.lock 1).tcell
  have HA : Hid _ := asked h
  have HE : Hid _ := ended_any _ (h.lock 1) i hi
  clear h
  go_enter_defers Try.func9, Try.ntmps9
  go_wp2_with (first
    | (go_at_call 21; refine (lock_free Try.muLib ⟨T.tb, 0, none⟩ _ c0 f0).mono ?_; rintro e w' ⟨rfl, rfl⟩)
    | (go_at_call 23; refine Calls.mono HE.out ?_; rintro e w' ⟨rfl, rfl⟩))
  refine leaves_cons (f := 22) (args := #[.pointer (some ⟨T.tb, 0, none⟩)]) (by simp) (by simp [go_sem]) ?_
  refine (unlock_deferred Try.muLib ⟨T.tb, 0, none⟩ .returning _ g0 z0).mono ?_
  rintro e u' w'' ⟨rfl, rfl, rfl⟩
  exact ⟨_, results_tmp rfl _ _ _, rfl, HA.out⟩

/-- Cancel's tree. -/
def mCancel (T : Tr) (i : Nat) : Tr := { T with cause := sw T.par (upd T.cause i 1) T.n }

set_option maxRecDepth 100000 in
set_option maxHeartbeats 800000 in
theorem cancel_dead {T : Tr} (w : World) (h : Holds 0 w T) (i : Nat) (hi : i < T.n) (hd : T.cause i ≠ 0) :
    Calls Try.prog 17 #[.pointer (some ⟨T.blk i, 0, none⟩)] w fun e w' => e = .returned (.bool false) ∧ Holds 0 w' T ∧ Same (Foot T) w w' := by
  obtain ⟨c0, -, f0, -⟩ := h.tcell
  obtain ⟨a0, -, -, -, -⟩ := h.cells hi
  obtain ⟨b0, -, -, -, -⟩ := (h.lock 1).cells hi
  obtain ⟨g0, -, z0, -⟩ := (h.lock 1).tcell
  have HA : Hid _ := asked h
  have HE : Hid (Calls Try.prog 23 #[.pointer (some ⟨T.blk i, 0, none⟩)] (w.setCell ⟨T.tb, 0, none⟩ (.int .i32 1)) fun e w' => e = .returned (.bool true) ∧ w' = (w.setCell ⟨T.tb, 0, none⟩ (.int .i32 1))) := by
    have := ended_any _ (h.lock 1) i hi
    simp only [beq_eq_false_iff_ne.2 hd] at this
    exact this
  clear h hd
  go_enter_defers Try.func17, Try.ntmps17
  go_wp2_with (first
    | (go_at_call 21; refine (lock_free Try.muLib ⟨T.tb, 0, none⟩ _ c0 f0).mono ?_; rintro e w' ⟨rfl, rfl⟩)
    | (go_at_call 23; refine Calls.mono HE.out ?_; rintro e w' ⟨rfl, rfl⟩))
  refine leaves_cons (f := 22) (args := #[.pointer (some ⟨T.tb, 0, none⟩)]) (by simp) (by simp [go_sem]) ?_
  refine (unlock_deferred Try.muLib ⟨T.tb, 0, none⟩ .returning _ g0 z0).mono ?_
  rintro e u' w'' ⟨rfl, rfl, rfl⟩
  exact ⟨_, results_tmp rfl _ _ _, rfl, HA.out⟩

set_option maxRecDepth 100000 in
set_option maxHeartbeats 800000 in
theorem cancel_live {T : Tr} (w : World) (h : Holds 0 w T) (i : Nat) (hi : i < T.n) (hd : T.cause i = 0) :
    Calls Try.prog 17 #[.pointer (some ⟨T.blk i, 0, none⟩)] w fun e w' => e = .returned (.bool true) ∧ Holds 0 w' (mCancel T i) ∧ Same (Foot T) w w' := by
  obtain ⟨c0, -, f0, -⟩ := h.tcell
  obtain ⟨a0, -, -, -, -⟩ := h.cells hi
  obtain ⟨b0, -, -, -, -⟩ := (h.lock 1).cells hi
  have HE : Hid (Calls Try.prog 23 #[.pointer (some ⟨T.blk i, 0, none⟩)] (w.setCell ⟨T.tb, 0, none⟩ (.int .i32 1)) fun e w' => e = .returned (.bool false) ∧ w' = (w.setCell ⟨T.tb, 0, none⟩ (.int .i32 1))) := by
    have := ended_any _ (h.lock 1) i hi
    simp only [hd] at this
    exact this
  have HS : Hid _ := stop_any _ (h.lock 1) i hi 1 (by decide) hd
  clear h hd
  go_enter_defers Try.func17, Try.ntmps17
  go_wp2_with (first
    | (go_at_call 21; refine (lock_free Try.muLib ⟨T.tb, 0, none⟩ _ c0 f0).mono ?_; rintro e w' ⟨rfl, rfl⟩)
    | (go_at_call 23; refine Calls.mono HE.out ?_; rintro e w' ⟨rfl, rfl⟩)
    | (go_at_call 25; refine Calls.mono HS.out ?_; rintro e w2 ⟨rfl, h2, s2⟩))
  refine leaves_cons (f := 22) (args := #[.pointer (some ⟨T.tb, 0, none⟩)]) (by simp) (by simp [go_sem]) ?_
  refine (unlock_deferred Try.muLib ⟨T.tb, 0, none⟩ .returning _ h2.tcell.1 h2.tcell.2.2.1).mono ?_
  rintro e u' w'' ⟨rfl, rfl, rfl⟩
  exact ⟨_, results_tmp rfl _ _ _, rfl, h2.lock 0, ((same_lock w T _).trans' s2).trans' (same_lock _ T _)⟩
end Go.Proofs.Ytkkkndbfokjikab
