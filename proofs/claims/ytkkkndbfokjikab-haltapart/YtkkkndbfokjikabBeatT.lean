/- What is proved: Beat of a stop of a tree that lies in memory with its lock free, its beats within bounds and no live stop below a stopped one: what it answers, and what it leaves of the tree; nothing outside the tree turns. -/
import Derived.Test.YtkkkndbfokjikabMeth
namespace Go.Proofs.Ytkkkndbfokjikab
open Go.Conc Go.RowKit Go.MuLone

/-- Beat's tree, where a stop without beats stands on the way up. -/
def mSpent (T : Tr) (a : Nat) : Tr := { T with cause := sw T.par (upd T.cause a 2) T.n }
/-- Beat's tree, where a beat is taken. -/
def mTake (T : Tr) (i : Nat) : Tr := { T with left := dec T.par T.left i }

set_option maxRecDepth 100000 in
set_option maxHeartbeats 800000 in
theorem beat_dead {T : Tr} (w : World) (h : Holds 0 w T) (i : Nat) (hi : i < T.n) (hd : T.cause i ≠ 0) :
    Calls Try.prog 10 #[.pointer (some ⟨T.blk i, 0, none⟩)] w fun e w' => e = .returned (.bool false) ∧ Holds 0 w' T ∧ Same (Foot T) w w' := by
  obtain ⟨c0, -, f0, -⟩ := h.tcell
  obtain ⟨a0, -, -, -, -⟩ := h.cells hi
  obtain ⟨b0, -, -, -, -⟩ := (h.lock 1).cells hi
  obtain ⟨g0, -, z0, -⟩ := (h.lock 1).tcell
  have HA : Hid _ := asked h
  have HE : Hid (Calls Try.prog 23 #[.pointer (some ⟨T.blk i, 0, none⟩)] (w.setCell ⟨T.tb, 0, none⟩ (.int .i32 1)) fun e w' => e = .returned (.bool true) ∧ w' = (w.setCell ⟨T.tb, 0, none⟩ (.int .i32 1))) := by
    have := ended_any _ (h.lock 1) i hi
    simp only [beq_eq_false_iff_ne.2 hd] at this
    exact this
  clear h hd
  go_enter_defers Try.func10, Try.ntmps10
  go_wp2_with (first
    | (go_at_call 21; refine (lock_free Try.muLib ⟨T.tb, 0, none⟩ _ c0 f0).mono ?_; rintro e w' ⟨rfl, rfl⟩)
    | (go_at_call 23; refine Calls.mono HE.out ?_; rintro e w' ⟨rfl, rfl⟩))
  refine leaves_cons (f := 22) (args := #[.pointer (some ⟨T.tb, 0, none⟩)]) (by simp) (by simp [go_sem]) ?_
  refine (unlock_deferred Try.muLib ⟨T.tb, 0, none⟩ .returning _ g0 z0).mono ?_
  rintro e u' w'' ⟨rfl, rfl, rfl⟩
  exact ⟨_, results_tmp rfl _ _ _, rfl, HA.out⟩

set_option maxRecDepth 100000 in
set_option maxHeartbeats 800000 in
theorem beat_spent {T : Tr} (w : World) (h : Holds 0 w T) (hcl : Closed T.par T.cause T.n) (i : Nat) (hi : i < T.n) (hd : T.cause i = 0) (a : Nat) (hs : spent T.par T.left i = some a) :
    Calls Try.prog 10 #[.pointer (some ⟨T.blk i, 0, none⟩)] w fun e w' => e = .returned (.bool false) ∧ Holds 0 w' (mSpent T a) ∧ Same (Foot T) w w' := by
  have hm := (spent_some _ _ _ _ hs).2
  have han : a < T.n := by have := up_le T.par T.n h.par (i + 1) i hi a hm; omega
  have had : T.cause a = 0 := up_live T.par T.cause T.n h.par hcl (i + 1) i hi hd a hm
  obtain ⟨c0, -, f0, -⟩ := h.tcell
  obtain ⟨a0, -, -, -, -⟩ := h.cells hi
  obtain ⟨b0, -, -, -, -⟩ := (h.lock 1).cells hi
  have HE : Hid (Calls Try.prog 23 #[.pointer (some ⟨T.blk i, 0, none⟩)] (w.setCell ⟨T.tb, 0, none⟩ (.int .i32 1)) fun e w' => e = .returned (.bool false) ∧ w' = (w.setCell ⟨T.tb, 0, none⟩ (.int .i32 1))) := by
    have := ended_any _ (h.lock 1) i hi
    simp only [hd] at this
    exact this
  have HH : Hid (Calls Try.prog 24 #[.pointer (some ⟨T.blk i, 0, none⟩)] (w.setCell ⟨T.tb, 0, none⟩ (.int .i32 1)) fun e w' => e = .returned (.pointer (some ⟨T.blk a, 0, none⟩)) ∧ w' = (w.setCell ⟨T.tb, 0, none⟩ (.int .i32 1))) := by
    have := highestSpent_any _ (h.lock 1) i hi
    rw [hs] at this
    exact this
  have HS : Hid _ := stop_any _ (h.lock 1) a han 2 (by decide) had
  clear h hd hm had hs hcl
  go_enter_defers Try.func10, Try.ntmps10
  go_wp2_with (first
    | (go_at_call 21; refine (lock_free Try.muLib ⟨T.tb, 0, none⟩ _ c0 f0).mono ?_; rintro e w' ⟨rfl, rfl⟩)
    | (go_at_call 23; refine Calls.mono HE.out ?_; rintro e w' ⟨rfl, rfl⟩)
    | (go_at_call 24; refine Calls.mono HH.out ?_; rintro e w' ⟨rfl, rfl⟩)
    | (go_at_call 25; refine Calls.mono HS.out ?_; rintro e w2 ⟨rfl, h2, s2⟩))
  refine leaves_cons (f := 22) (args := #[.pointer (some ⟨T.tb, 0, none⟩)]) (by simp) (by simp [go_sem]) ?_
  refine (unlock_deferred Try.muLib ⟨T.tb, 0, none⟩ .returning _ h2.tcell.1 h2.tcell.2.2.1).mono ?_
  rintro e u' w'' ⟨rfl, rfl, rfl⟩
  exact ⟨_, results_tmp rfl _ _ _, rfl, h2.lock 0, ((same_lock w T _).trans' s2).trans' (same_lock _ T _)⟩

/-- One beat off a stop, in memory. -/
theorem Holds.beat {m : Int} {w : World} {T : Tr} (h : Holds m w T) {i : Nat} (hi : i < T.n) (l : Int) : Holds m (w.setCell ⟨T.blk i, 2, none⟩ (.int .i64 l)) { T with left := upd T.left i l } ∧ Same (Foot T) w (w.setCell ⟨T.blk i, 2, none⟩ (.int .i64 l)) := by
  have hs : Same (fun k => k = T.blk i ∨ k = T.ch i) w (w.setCell ⟨T.blk i, 2, none⟩ (.int .i64 l)) := (Same.refl _ w).setCell _ (.inr (.inl rfl)) _
  refine ⟨?_, hs.mono fun k _ hk => .inr (.inr ⟨i, hi, hk⟩)⟩
  have := h.turn hi l (T.cause i) hs (by rw [setCell_at (h.stop i hi)]; simp [stopObj]) ((Below.heap_setCell _ _ _ _ (h.ch_ne_blk hi hi)).trans (h.chan i hi))
  rwa [upd_self] at this

set_option maxRecDepth 100000 in
set_option maxHeartbeats 800000 in
theorem beat_take {T : Tr} (w : World) (h : Holds 0 w T) (hr : Rng T.left T.n) (i : Nat) (hi : i < T.n) (hd : T.cause i = 0) (hs : spent T.par T.left i = none) :
    Calls Try.prog 10 #[.pointer (some ⟨T.blk i, 0, none⟩)] w fun e w' => e = .returned (.bool true) ∧ Holds 0 w' (mTake T i) ∧ Same (Foot T) w w' := by
  obtain ⟨c0, -, f0, -⟩ := h.tcell
  obtain ⟨a0, -, -, -, -⟩ := h.cells hi
  obtain ⟨b0, -, -, -, -⟩ := (h.lock 1).cells hi
  have HE : Hid (Calls Try.prog 23 #[.pointer (some ⟨T.blk i, 0, none⟩)] (w.setCell ⟨T.tb, 0, none⟩ (.int .i32 1)) fun e w' => e = .returned (.bool false) ∧ w' = (w.setCell ⟨T.tb, 0, none⟩ (.int .i32 1))) := by
    have := ended_any _ (h.lock 1) i hi
    simp only [hd] at this
    exact this
  have HH : Hid (Calls Try.prog 24 #[.pointer (some ⟨T.blk i, 0, none⟩)] (w.setCell ⟨T.tb, 0, none⟩ (.int .i32 1)) fun e w' => e = .returned (.pointer none) ∧ w' = (w.setCell ⟨T.tb, 0, none⟩ (.int .i32 1))) := by
    have := highestSpent_any _ (h.lock 1) i hi
    rw [hs] at this
    exact this
  have HL : Hid (Holds 1 (w.setCell ⟨T.tb, 0, none⟩ (.int .i32 1)) T) := h.lock 1
  have HR : Hid _ := hr
  clear hd hs hr
  go_enter_defers Try.func10, Try.ntmps10
  go_wp2_with (first
    | (go_at_call 21; refine (lock_free Try.muLib ⟨T.tb, 0, none⟩ _ c0 f0).mono ?_; rintro e w' ⟨rfl, rfl⟩)
    | (go_at_call 23; refine Calls.mono HE.out ?_; rintro e w' ⟨rfl, rfl⟩)
    | (go_at_call 24; refine Calls.mono HH.out ?_; rintro e w' ⟨rfl, rfl⟩))
  go_loopw [4] (fun q wx => ∃ (cur : Option Nat) (f : Nat) (L : Nat → Int), q = ptrO T cur ∧ (∀ x, cur = some x → x < f ∧ x < T.n) ∧ (∀ x y, cur = some x → y ≤ x → L y = T.left y) ∧ Holds 1 wx { T with left := L } ∧ Same (Foot T) w wx ∧ (upo T.par f cur).foldl decS L = dec T.par T.left i) (fun q _ => rank T q)
  case atStart => exact ⟨some i, i + 1, T.left, rfl, fun x hx => by cases hx; exact ⟨by omega, hi⟩, fun _ _ _ _ => rfl, HL.out, same_lock w T _, rfl⟩
  case round =>
    obtain ⟨cur, f, L, rfl, hx, hy, hh, ss, hf⟩ := hrel
    cases cur with
    | none =>
      have hf' : L = dec T.par T.left i := hf
      subst hf'
      clear hf
      simp only [ptrO_none]
      go_wp2
      refine leaves_cons (f := 22) (args := #[.pointer (some ⟨T.tb, 0, none⟩)]) (by simp) (by simp [go_sem]) ?_
      refine (unlock_deferred Try.muLib ⟨T.tb, 0, none⟩ .returning _ hh.tcell.1 hh.tcell.2.2.1).mono ?_
      rintro e u' w'' ⟨rfl, rfl, rfl⟩
      exact ⟨_, results_tmp rfl _ _ _, rfl, hh.lock 0, ss.trans' (same_lock _ T _)⟩
    | some a =>
      obtain ⟨haf, han⟩ := hx a rfl
      obtain ⟨f, rfl⟩ : ∃ f', f = f' + 1 := ⟨f - 1, by omega⟩
      rw [upo_succ, List.foldl_cons] at hf
      have Hf : Hid _ := hf
      have HX : Hid (∀ x, T.par a = some x → x < f ∧ x < T.n) := fun x hx => by have := h.par a x han hx; omega
      have HK : Hid _ := rank_lt h han
      have hLa : L a = T.left a := hy a a rfl (Nat.le_refl _)
      have hra := HR.out a han
      have lo : 0 ≤ L a := by omega
      have hi' : L a ≤ 1099511627776 := by omega
      have HY : Hid (∀ x y, T.par a = some x → y ≤ x → decS L a y = T.left y) := fun x y e1 e2 => by
        have := h.par a x han e1
        rw [decS, upd_other _ _ (by omega)]
        exact hy a y rfl (by omega)
      have HB : Hid _ := hh.beat han (L a - 1)
      clear hf hx hra hLa hy
      obtain ⟨-, h1, h2, -, -⟩ := hh.cells (i := a) han
      have h1' : wr.cell? ⟨T.blk a, 1, none⟩ = some (ptrO T (T.par a)) := h1
      have h2' : wr.cell? ⟨T.blk a, 2, none⟩ = some (.int .i64 (L a)) := h2
      have fz : wr.frozen? ⟨T.blk a, 2, none⟩ = false := frozen_of (hh.stop a han) 2
      clear h1 h2
      simp only [ptrO_some]
      go_wp2
      go_roundw
      case rel => exact ⟨T.par a, f, decS L a, rfl, HX.out, HY.out, HB.out.1, ss.trans' HB.out.2, Hf.out⟩
      case measure => exact HK.out
end Go.Proofs.Ytkkkndbfokjikab
