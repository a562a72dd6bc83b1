/- What is proved: Child of a stop of a tree that lies in memory with its lock free: what it refuses, and the tree with one stop more; nothing outside the tree turns. -/
import Derived.Test.YtkkkndbfokjikabMade
namespace Go.Proofs.Ytkkkndbfokjikab
open Go.Conc Go.RowKit Go.MuLone

/-- The cause of a child of a stop with cause c. -/
def born (c : Int) : Int := if c = 0 then 0 else 3

set_option maxRecDepth 100000 in
set_option maxHeartbeats 400000 in
theorem child_no (a : Addr) (b : Int) (w : World) (h : b < 0 ∨ 1099511627776 < b) : Calls Try.prog 15 #[.pointer (some a), .int .i64 b] w fun e w' => e = .returned (.tuple #[.pointer none, .int .i64 10]) ∧ w' = w := by
  have hnot : ∀ (x : Bool) (w : World), (Op.unary .not (.bool x)).run Try.prog w = .ok (.bool (!x)) w := fun _ _ => rfl
  have HR : Hid _ := right_no b w h
  clear h
  go_enter_defers Try.func15, Try.ntmps15
  go_wp2_with (go_at_call 12; refine Calls.mono HR.out ?_; rintro e w' ⟨rfl, hw⟩; subst w')
  exact ⟨_, results_tmp2 rfl _ _ _, rfl, rfl⟩

set_option maxRecDepth 100000 in
set_option maxHeartbeats 800000 in
theorem child_many {T : Tr} (w : World) (h : Holds 0 w T) (i : Nat) (hi : i < T.n) (b : Int) (h0 : 0 ≤ b) (h1 : b ≤ 1099511627776) (hn : 256 ≤ T.n) :
    Calls Try.prog 15 #[.pointer (some ⟨T.blk i, 0, none⟩), .int .i64 b] w fun e w' => e = .returned (.tuple #[.pointer none, .int .i64 11]) ∧ Holds 0 w' T ∧ Same (Foot T) w w' := by
  have hnot : ∀ (x : Bool) (w : World), (Op.unary .not (.bool x)).run Try.prog w = .ok (.bool (!x)) w := fun _ _ => rfl
  have HR : Hid _ := right_yes b w h0 h1
  obtain ⟨c0, -, f0, -⟩ := h.tcell
  obtain ⟨a0, -, -, -, -⟩ := h.cells hi
  obtain ⟨b0, -, -, -, -⟩ := (h.lock 1).cells hi
  obtain ⟨g0, g2, z0, -⟩ := (h.lock 1).tcell
  obtain ⟨g, cap, hv, hnc, hcm⟩ := h.slice hi
  rw [hv] at g2
  have hn' : (256 : Int) ≤ (T.n : Int) := by omega
  have HA : Hid _ := asked h
  clear h hv h0 h1
  go_enter_defers Try.func15, Try.ntmps15
  go_wp2_with (first
    | (go_at_call 12; refine Calls.mono HR.out ?_; rintro e w' ⟨rfl, hw⟩; subst w')
    | (go_at_call 21; refine (lock_free Try.muLib ⟨T.tb, 0, none⟩ _ c0 f0).mono ?_; rintro e w' ⟨rfl, rfl⟩))
  refine leaves_cons (f := 22) (args := #[.pointer (some ⟨T.tb, 0, none⟩)]) (by simp) (by simp [go_sem]) ?_
  refine (unlock_deferred Try.muLib ⟨T.tb, 0, none⟩ .returning _ g0 z0).mono ?_
  rintro e u' w'' ⟨rfl, rfl, rfl⟩
  exact ⟨_, results_tmp2 rfl _ _ _, rfl, HA.out⟩

set_option maxRecDepth 100000 in
set_option maxHeartbeats 800000 in
theorem child_yes {T : Tr} (w : World) (h : Holds 0 w T) (i : Nat) (hi : i < T.n) (b : Int) (h0 : 0 ≤ b) (h1 : b ≤ 1099511627776) (hn : T.n < 256) :
    Calls Try.prog 15 #[.pointer (some ⟨T.blk i, 0, none⟩), .int .i64 b] w fun e w' => e = .returned (.tuple #[.pointer (some ⟨w.heap.size + 1, 0, none⟩), .int .i64 0]) ∧
      ∃ sv, Holds 0 w' (kidTr T i b (born (T.cause i)) sv (w.heap.size + 1) w.heap.size) ∧ (∀ k, sv.ownBlock = some k → T.sv.ownBlock = some k ∨ w.heap.size ≤ k) ∧ Same (Foot T) w w' := by
  have hnot : ∀ (x : Bool) (w : World), (Op.unary .not (.bool x)).run Try.prog w = .ok (.bool (!x)) w := fun _ _ => rfl
  have HR : Hid _ := right_yes b w h0 h1
  obtain ⟨c0, -, f0, -⟩ := h.tcell
  obtain ⟨a0, -, -, -, -⟩ := h.cells hi
  obtain ⟨b0, -, -, -, -⟩ := (h.lock 1).cells hi
  obtain ⟨g0, g2, z0, -⟩ := (h.lock 1).tcell
  obtain ⟨g, cap, hv, hnc, hcm⟩ := h.slice hi
  have hs1 : (w.setCell ⟨T.tb, 0, none⟩ (.int .i32 1)).heap.size = w.heap.size := size_setCell ..
  have HL : Hid _ := h.lock 1
  have HA : Hid (Calls Try.prog 13 #[.pointer (some ⟨T.tb, 0, none⟩), .pointer (some ⟨T.blk i, 0, none⟩), .int .i64 b] (w.setCell ⟨T.tb, 0, none⟩ (.int .i32 1)) fun e w' =>
      e = .returned (.pointer (some ⟨w.heap.size + 1, 0, none⟩)) ∧ ∃ sv, Holds 1 w' (kidTr T i b 0 sv (w.heap.size + 1) w.heap.size) ∧ (∀ k, sv.ownBlock = some k → T.sv.ownBlock = some k ∨ w.heap.size ≤ k) ∧ Same (Foot T) w w') := by
    refine (add_any 1 T.tb T.n T.sv (ptrs T.blk T.n) (some (T.blk i)) b _ (h.lock 1).tree (h.lock 1).row (by omega)).mono ?_
    rintro e w1 ⟨rfl, sv, q1, q2, q3, q4, q5, q6⟩
    have := (h.lock 1).kid hi b sv q1 q2 q4 q5 q6
    rw [hs1] at this q3 ⊢
    exact ⟨rfl, sv, this, q3, (same_lock w T _).trans' (q6.mono fun k _ hk => hk.elim .inl fun h => .inr (.inl h))⟩
  rw [hv] at g2
  have hn' : ¬ (256 : Int) ≤ (T.n : Int) := by omega
  by_cases hz : T.cause i = 0
  · have HE : Hid (∀ sv w1, Holds 1 w1 (kidTr T i b 0 sv (w.heap.size + 1) w.heap.size) → Calls Try.prog 23 #[.pointer (some ⟨T.blk i, 0, none⟩)] w1 fun e w' => e = .returned (.bool false) ∧ w' = w1) := by
      intro sv w1 hk
      have := ended_any w1 hk i (show i < T.n + 1 by omega)
      simp only [kidTr, upd_other _ _ (show i ≠ T.n by omega), hz] at this
      exact this
    have HI : Hid (born (T.cause i) = 0) := if_pos hz
    clear h hv h0 h1 hz hs1
    go_enter_defers Try.func15, Try.ntmps15
    go_wp2_with (first
      | (go_at_call 12; refine Calls.mono HR.out ?_; rintro e w' ⟨rfl, hw⟩; subst w')
      | (go_at_call 21; refine (lock_free Try.muLib ⟨T.tb, 0, none⟩ _ c0 f0).mono ?_; rintro e w' ⟨rfl, rfl⟩)
      | (go_at_call 13; refine Calls.mono HA.out ?_; rintro e w1 ⟨rfl, sv, k1, k2, k3⟩)
      | (go_at_call 23; refine Calls.mono (HE.out sv w1 k1) ?_; rintro e w' ⟨rfl, hw⟩; subst w'))
    refine leaves_cons (f := 22) (args := #[.pointer (some ⟨T.tb, 0, none⟩)]) (by simp) (by simp [go_sem]) ?_
    refine (unlock_deferred Try.muLib ⟨T.tb, 0, none⟩ .returning _ k1.tcell.1 k1.tcell.2.2.1).mono ?_
    rintro e u' w'' ⟨rfl, rfl, rfl⟩
    refine ⟨_, results_tmp2 rfl _ _ _, rfl, sv, ?_, k2, k3.trans' (same_lock _ T _)⟩
    rw [HI.out]
    exact k1.lock 0
  · have HE : Hid (∀ sv w1, Holds 1 w1 (kidTr T i b 0 sv (w.heap.size + 1) w.heap.size) → Calls Try.prog 23 #[.pointer (some ⟨T.blk i, 0, none⟩)] w1 fun e w' => e = .returned (.bool true) ∧ w' = w1) := by
      intro sv w1 hk
      have := ended_any w1 hk i (show i < T.n + 1 by omega)
      simp only [kidTr, upd_other _ _ (show i ≠ T.n by omega), beq_eq_false_iff_ne.2 hz] at this
      exact this
    have HF : Hid (∀ sv w1, Holds 1 w1 (kidTr T i b 0 sv (w.heap.size + 1) w.heap.size) → Calls Try.prog 26 #[.pointer (some ⟨w.heap.size + 1, 0, none⟩), .int .i64 3] w1 fun e w' => e = .returned (.tuple #[]) ∧ Holds 1 w' (kidTr T i b 3 sv (w.heap.size + 1) w.heap.size) ∧ Same (Foot (kidTr T i b 0 sv (w.heap.size + 1) w.heap.size)) w1 w') := by
      intro sv w1 hk
      have := end_any w1 hk T.n (show T.n < T.n + 1 by omega) 3 (by decide)
      simp only [kidTr, upd_same, if_true] at this
      have hu : upd (upd T.cause T.n 0) T.n 3 = upd T.cause T.n 3 := by funext k; by_cases hk : k = T.n <;> simp [upd, hk]
      rw [hu] at this
      exact this
    have HI : Hid (born (T.cause i) = 3) := if_neg hz
    clear h hv h0 h1 hz hs1
    go_enter_defers Try.func15, Try.ntmps15
    go_wp2_with (first
      | (go_at_call 12; refine Calls.mono HR.out ?_; rintro e w' ⟨rfl, hw⟩; subst w')
      | (go_at_call 21; refine (lock_free Try.muLib ⟨T.tb, 0, none⟩ _ c0 f0).mono ?_; rintro e w' ⟨rfl, rfl⟩)
      | (go_at_call 13; refine Calls.mono HA.out ?_; rintro e w1 ⟨rfl, sv, k1, k2, k3⟩)
      | (go_at_call 23; refine Calls.mono (HE.out sv w1 k1) ?_; rintro e w' ⟨rfl, hw⟩; subst w')
      | (go_at_call 26; refine Calls.mono (HF.out sv w1 k1) ?_; rintro e w2 ⟨rfl, l1, l2⟩))
    refine leaves_cons (f := 22) (args := #[.pointer (some ⟨T.tb, 0, none⟩)]) (by simp) (by simp [go_sem]) ?_
    refine (unlock_deferred Try.muLib ⟨T.tb, 0, none⟩ .returning _ l1.tcell.1 l1.tcell.2.2.1).mono ?_
    rintro e u' w'' ⟨rfl, rfl, rfl⟩
    refine ⟨_, results_tmp2 rfl _ _ _, rfl, sv, ?_, k2, (k3.trans l2 ?_).trans' (same_lock _ T _)⟩
    · rw [HI.out]
      exact l1.lock 0
    · intro k hk hf
      rcases foot_kid k2 (by omega) (by omega) k hf with h | h
      · exact h
      · omega
end Go.Proofs.Ytkkkndbfokjikab
