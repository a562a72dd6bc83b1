/- What is proved: what compare, endsAhead, right and side of spans answer, for every span; the forest lies in memory. -/
import Derived.Test.YtaiaahcblohknaaYMem
import Derived.Deep.RegionHeld3
import Derived.Deep.Cut
import Derived.Carry
namespace Go.Proofs.Ytaiaahcblohknaa
open Go.RowKit

/-- How two numbers stand to one another. -/
def cmp3 (a b : Int) : Int := if a < b then -1 else if b < a then 1 else 0
theorem cmp3_lt {a b : Int} (h : a < b) : cmp3 a b = -1 := if_pos h
theorem cmp3_gt {a b : Int} (h : b < a) : cmp3 a b = 1 := by unfold cmp3; rw [if_neg (by omega), if_pos h]
theorem cmp3_eq (a : Int) : cmp3 a a = 0 := by unfold cmp3; rw [if_neg (by omega), if_neg (by omega)]
theorem cmp3_cases (a b : Int) : (a < b ∧ cmp3 a b = -1 ∧ cmp3 b a = 1) ∨ (b < a ∧ cmp3 a b = 1 ∧ cmp3 b a = -1) ∨ (a = b ∧ cmp3 a b = 0 ∧ cmp3 b a = 0) := by
  rcases Int.lt_trichotomy a b with h | rfl | h
  · exact .inl ⟨h, cmp3_lt h, cmp3_gt h⟩
  · exact .inr (.inr ⟨rfl, cmp3_eq _, cmp3_eq _⟩)
  · exact .inr (.inl ⟨h, cmp3_gt h, cmp3_lt h⟩)
set_option maxRecDepth 100000 in
theorem isnan_any (x : Int) (w : World) : Calls Try.prog 50 #[.int .i64 x] w fun e w' => e = .returned (.bool false) ∧ w' = w := by
  have h : (x != x) = false := by simp
  go_enter Try.func50, Try.ntmps50
  go_wp2_with fail
  go_ret
  exact ⟨rfl, rfl⟩
set_option maxRecDepth 100000 in
set_option maxHeartbeats 800000 in
theorem cmpC_any (x y : Int) (w : World) : Calls Try.prog 44 #[.int .i64 x, .int .i64 y] w fun e w' => e = .returned (.int .i64 (cmp3 x y)) ∧ w' = w := by
  have HX : Hid (∀ W, _) := fun W => isnan_any x W
  have HY : Hid (∀ W, _) := fun W => isnan_any y W
  rcases cmp3_cases x y with ⟨h, e, -⟩ | ⟨h, e, -⟩ | ⟨rfl, e, -⟩
  · rw [e]
    have d : decide (x < y) = true := decide_eq_true h
    clear e
    go_enter Try.func44, Try.ntmps44
    go_wp2_with fail
    refine Calls.mono (HX.out _) ?_
    rintro r w1 ⟨rfl, rfl⟩
    go_wp2_with fail
    refine Calls.mono (HY.out _) ?_
    rintro r w1 ⟨rfl, rfl⟩
    go_wp2_with fail
    go_ret
    exact ⟨rfl, rfl⟩
  · rw [e]
    have d : decide (x < y) = false := decide_eq_false (by omega)
    have d2 : decide (y < x) = true := decide_eq_true h
    have h2 : ¬ x < y := by omega
    clear e
    go_enter Try.func44, Try.ntmps44
    go_wp2_with fail
    refine Calls.mono (HX.out _) ?_
    rintro r w1 ⟨rfl, rfl⟩
    go_wp2_with fail
    refine Calls.mono (HY.out _) ?_
    rintro r w1 ⟨rfl, rfl⟩
    go_wp2_with fail
    go_ret
    exact ⟨rfl, rfl⟩
  · rw [e]
    have d : decide (x < x) = false := decide_eq_false (by omega)
    clear e
    go_enter Try.func44, Try.ntmps44
    go_wp2_with fail
    refine Calls.mono (HX.out _) ?_
    rintro r w1 ⟨rfl, rfl⟩
    go_wp2_with fail
    refine Calls.mono (HY.out _) ?_
    rintro r w1 ⟨rfl, rfl⟩
    go_wp2_with fail
    go_ret
    exact ⟨rfl, rfl⟩

/-- The first number that is not 0. -/
def orL : List Int → Int
  | [] => 0
  | x :: r => if x ≠ 0 then x else orL r
set_option maxRecDepth 100000 in
set_option maxHeartbeats 1600000 in
theorem or_any (w : World) (g n : Nat) (xs : List Int) (h : ∀ i x, xs[i]? = some x → w.cell? ⟨g, i, none⟩ = some (.int .i64 x)) (hn : n = xs.length) (hs : n ≤ 3) :
    Calls Try.prog 43 #[.slice (some ⟨g, 0, none⟩) n n] w fun e w' => e = .returned (.int .i64 (orL xs)) ∧ w' = w := by
  have EN : Hid _ := hn
  have HC : Hid _ := h
  clear h hn
  go_enter Try.func43, Try.ntmps43
  go_wp2_with fail
  go_loop [8] (fun i => ∃ j : Nat, j ≤ n ∧ i = .int .i64 j ∧ orL xs = orL (xs.drop j)) (fun i => n - (intOf i).toNat)
  case atStart => exact ⟨0, Nat.zero_le _, rfl, rfl⟩
  case round =>
    obtain ⟨j, hj, rfl, hr⟩ := hrel
    by_cases hlt : j < n
    · have c1 : decide ((j : Int) < (n : Int)) = true := by simp only [decide_eq_true_eq]; omega
      have hlt2 : (j : Int) < (n : Int) := by omega
      obtain ⟨x, hx⟩ : ∃ x, xs[j]? = some x := ⟨_, List.getElem?_eq_getElem (by rw [← EN.out]; exact hlt)⟩
      have hc := HC.out j x hx
      have hd : xs.drop j = x :: xs.drop (j + 1) := by
        obtain ⟨hh, rfl⟩ := List.getElem?_eq_some_iff.1 hx
        exact List.drop_eq_getElem_cons hh
      rw [hd] at hr
      by_cases hz : x = 0
      · subst hz
        have HR : Hid (orL xs = orL (xs.drop (j + 1))) := hr
        clear hr hd hx
        go_wp2_with fail
        go_round
        case rel => exact ⟨j + 1, hlt, by rw [Int.natCast_add]; rfl, HR.out⟩
        case measure => simp only [intOf]; omega
      · have hz' : (x != 0) = true := by simpa using hz
        have HR : Hid (orL xs = x) := hr.trans (if_pos hz)
        clear hr hd hx hz
        go_wp2_with fail
        go_ret
        exact ⟨congrArg (fun z => Ending.returned (Value.int IntKind.i64 z)) HR.out.symm, rfl⟩
    · have ej : j = n := by omega
      subst ej
      have c1 : decide ((j : Int) < (j : Int)) = false := by simp
      have HR : Hid (orL xs = 0) := hr.trans (by rw [List.drop_eq_nil_of_le (by rw [← EN.out]; exact Nat.le_refl _)]; rfl)
      clear hr
      go_wp2_with fail
      go_ret
      exact ⟨congrArg (fun z => Ending.returned (Value.int IntKind.i64 z)) HR.out.symm, rfl⟩
theorem or_three (w : World) (g : Nat) (a b c : Int) (ty : TypeId) (h : w.heap[g]? = some (.cells #[.int .i64 a, .int .i64 b, .int .i64 c] ty (0, 0))) :
    Calls Try.prog 43 #[.slice (some ⟨g, 0, none⟩) 3 3] w fun e w' => e = .returned (.int .i64 (orL [a, b, c])) ∧ w' = w := by
  refine or_any w g 3 [a, b, c] (fun i x hx => ?_) rfl (by decide)
  rw [cell_of h]
  match i, hx with
  | 0, hx => simp at hx; subst hx; rfl
  | 1, hx => simp at hx; subst hx; rfl
  | 2, hx => simp at hx; subst hx; rfl
  | n + 3, hx => simp at hx
/-- How two spans stand to one another. -/
def cmpS (a b : Sp) : Int := orL [cmp3 a.f b.f, cmp3 a.t b.t, cmp3 a.i b.i]
def cmpE (a b : Sp) : Int := orL [cmp3 a.t b.t, cmp3 a.i b.i, cmp3 a.f b.f]
theorem or_lt (a b c d e f : Int) : decide (orL [cmp3 a b, cmp3 c d, cmp3 e f] < 0) = decide (a < b ∨ (a = b ∧ (c < d ∨ (c = d ∧ e < f)))) := by
  unfold orL
  rcases cmp3_cases a b with ⟨h, q, -⟩ | ⟨h, q, -⟩ | ⟨h, q, -⟩ <;> rw [q]
  · simp [h]
  · simp; omega
  · rcases cmp3_cases c d with ⟨h', q', -⟩ | ⟨h', q', -⟩ | ⟨h', q', -⟩ <;> simp [orL, q']
    · omega
    · omega
    · rcases cmp3_cases e f with ⟨h2, q2, -⟩ | ⟨h2, q2, -⟩ | ⟨h2, q2, -⟩ <;> simp [q2] <;> omega
theorem cmpS_lt (a b : Sp) : decide (cmpS a b < 0) = sl a b := or_lt _ _ _ _ _ _
theorem cmpE_lt (a b : Sp) : decide (cmpE a b < 0) = fl a b := or_lt _ _ _ _ _ _
structure Cm (w W : World) (h : Nat) (a b : Sp) : Prop where
  kept : Kept w W
  lt : h + 1 < W.heap.size
  c1 : W.cell? ⟨h, 0, none⟩ = some (.int .i64 a.f)
  c2 : W.cell? ⟨h + 1, 0, none⟩ = some (.int .i64 b.f)
  c3 : W.cell? ⟨h, 1, none⟩ = some (.int .i64 a.t)
  c4 : W.cell? ⟨h + 1, 1, none⟩ = some (.int .i64 b.t)
  c5 : W.cell? ⟨h, 2, none⟩ = some (.int .i64 a.i)
  c6 : W.cell? ⟨h + 1, 2, none⟩ = some (.int .i64 b.i)
abbrev spO (x : Sp) : Obj := .cells #[.int .i64 x.f, .int .i64 x.t, .int .i64 x.i] 31 (0, 0)
theorem cm_new (w : World) (a b : Sp) : Cm w ((w.alloc (spO a)).alloc (spO b)) w.heap.size a b := by
  have q1 := (heap_old _ (spO b) (by rw [World.size_alloc]; exact Nat.lt_succ_self _)).trans (heap_new w (spO a))
  have q2 := heap_new (w.alloc (spO a)) (spO b)
  rw [World.size_alloc] at q2
  exact ⟨((Same.refl _ w).alloc _).alloc _, by simp only [World.size_alloc]; omega, (cell_of q1 0).trans rfl, (cell_of q2 0).trans rfl, (cell_of q1 1).trans rfl, (cell_of q2 1).trans rfl, (cell_of q1 2).trans rfl, (cell_of q2 2).trans rfl⟩
theorem Cm.on {w W : World} {h : Nat} {a b : Sp} (m : Cm w W h a b) (w3 : World) (k : Kept W w3) : Kept W w3 ∧ Cm w w3 h a b := by
  have h0 : h < W.heap.size := by have := m.lt; omega
  exact ⟨k, m.kept.trans' k, Nat.lt_of_lt_of_le m.lt k.size, (k.cell (p := ⟨h, 0, none⟩) h0 (fun e => e)).trans m.c1, (k.cell (p := ⟨h + 1, 0, none⟩) m.lt (fun e => e)).trans m.c2, (k.cell (p := ⟨h, 1, none⟩) h0 (fun e => e)).trans m.c3, (k.cell (p := ⟨h + 1, 1, none⟩) m.lt (fun e => e)).trans m.c4, (k.cell (p := ⟨h, 2, none⟩) h0 (fun e => e)).trans m.c5, (k.cell (p := ⟨h + 1, 2, none⟩) m.lt (fun e => e)).trans m.c6⟩
theorem Cm.seven {w W : World} {h : Nat} {a b : Sp} (m : Cm w W h a b) (w3 : World) (k : Kept W w3) : Kept W w3 ∧ w3.cell? ⟨h, 0, none⟩ = some (.int .i64 a.f) ∧ w3.cell? ⟨h + 1, 0, none⟩ = some (.int .i64 b.f) ∧ w3.cell? ⟨h, 1, none⟩ = some (.int .i64 a.t) ∧ w3.cell? ⟨h + 1, 1, none⟩ = some (.int .i64 b.t) ∧ w3.cell? ⟨h, 2, none⟩ = some (.int .i64 a.i) ∧ w3.cell? ⟨h + 1, 2, none⟩ = some (.int .i64 b.i) := by
  obtain ⟨q1, -, -, q2, q3, q4, q5, q6, q7⟩ := m.on w3 k
  exact ⟨q1, q2, q3, q4, q5, q6, q7⟩
set_option maxRecDepth 100000 in
set_option maxHeartbeats 1600000 in
theorem compare14 (a b : Sp) (w : World) : Calls Try.prog 45 #[spV a, spV b] w fun e w' => e = .returned (.int .i64 (cmpS a b)) ∧ Kept w w' := by
  have HC : Hid (∀ x y W, _) := cmpC_any
  have HO : Hid (∀ (W : World) (g : Nat) (a b c : Int) (ty : TypeId), W.heap[g]? = _ → _) := or_three
  have HM : Hid _ := cm_new w a b
  obtain ⟨af, at_, ai⟩ := a
  obtain ⟨bf, bt, bi⟩ := b
  unfold spV cmpS
  simp only at HM ⊢
  go_enter Try.func45, Try.ntmps45
  go_upto_region 1 with fail
  generalize (w.alloc (spO ⟨af, at_, ai⟩)).alloc (spO ⟨bf, bt, bi⟩) = W at HM ⊢
  generalize w.heap.size = h at HM ⊢
  have HBX : Hid (∀ w3, Kept W w3 → _) := fun w3 k3 => HM.out.seven w3 k3
  obtain ⟨k, hlt, c1, c2, c3, c4, c5, c6⟩ := HM.out
  have K : Hid _ := k
  clear k HM
  go_region_held3 (fun w' => Kept W w' ∧ w'.cell? ⟨h, 0, none⟩ = some (.int .i64 af) ∧ w'.cell? ⟨h + 1, 0, none⟩ = some (.int .i64 bf) ∧ w'.cell? ⟨h, 1, none⟩ = some (.int .i64 at_) ∧ w'.cell? ⟨h + 1, 1, none⟩ = some (.int .i64 bt) ∧ w'.cell? ⟨h, 2, none⟩ = some (.int .i64 ai) ∧ w'.cell? ⟨h + 1, 2, none⟩ = some (.int .i64 bi))
    (exact HBX.out _ (by (repeat (first | exact Same.refl _ _ | apply Same.alloc | apply Same.drew | apply Same.drewN)); done))
    (first
    | (go_at_call 44; refine Calls.mono (HC.out _ _ _) ?_; rintro r w1 ⟨rfl, rfl⟩)
    | (go_at_call 43; refine Calls.mono (HO.out _ _ _ _ _ 3 (by exact heap_new _ _)) ?_; rintro r w1 ⟨rfl, rfl⟩))
  all_goals (go_wp2_with fail)
  all_goals (go_ret; exact ⟨rfl, Same.trans' K.out (by (repeat (first | exact Same.refl _ _ | apply Same.alloc | apply Same.drew | apply Same.drewN)); done)⟩)
set_option maxRecDepth 100000 in
set_option maxHeartbeats 1600000 in
theorem ends14f (a b : Sp) (w : World) : Calls Try.prog 34 #[spV a, spV b] w fun e w' => e = .returned (.bool (decide (cmpE a b < 0))) ∧ Kept w w' := by
  have HC : Hid (∀ x y W, _) := cmpC_any
  have HO : Hid (∀ (W : World) (g : Nat) (a b c : Int) (ty : TypeId), W.heap[g]? = _ → _) := or_three
  have HM : Hid _ := cm_new w a b
  obtain ⟨af, at_, ai⟩ := a
  obtain ⟨bf, bt, bi⟩ := b
  unfold spV cmpE
  simp only at HM ⊢
  go_enter Try.func34, Try.ntmps34
  go_upto_region 1 with fail
  generalize (w.alloc (spO ⟨af, at_, ai⟩)).alloc (spO ⟨bf, bt, bi⟩) = W at HM ⊢
  generalize w.heap.size = h at HM ⊢
  have HBX : Hid (∀ w3, Kept W w3 → _) := fun w3 k3 => HM.out.seven w3 k3
  obtain ⟨k, hlt, c1, c2, c3, c4, c5, c6⟩ := HM.out
  have K : Hid _ := k
  clear k HM
  go_region_held3 (fun w' => Kept W w' ∧ w'.cell? ⟨h, 0, none⟩ = some (.int .i64 af) ∧ w'.cell? ⟨h + 1, 0, none⟩ = some (.int .i64 bf) ∧ w'.cell? ⟨h, 1, none⟩ = some (.int .i64 at_) ∧ w'.cell? ⟨h + 1, 1, none⟩ = some (.int .i64 bt) ∧ w'.cell? ⟨h, 2, none⟩ = some (.int .i64 ai) ∧ w'.cell? ⟨h + 1, 2, none⟩ = some (.int .i64 bi))
    (exact HBX.out _ (by (repeat (first | exact Same.refl _ _ | apply Same.alloc | apply Same.drew | apply Same.drewN)); done))
    (first
    | (go_at_call 44; refine Calls.mono (HC.out _ _ _) ?_; rintro r w1 ⟨rfl, rfl⟩)
    | (go_at_call 43; refine Calls.mono (HO.out _ _ _ _ _ 3 (by exact heap_new _ _)) ?_; rintro r w1 ⟨rfl, rfl⟩))
  all_goals (go_wp2_with fail)
  all_goals (go_ret; exact ⟨rfl, Same.trans' K.out (by (repeat (first | exact Same.refl _ _ | apply Same.alloc | apply Same.drew | apply Same.drewN)); done)⟩)
theorem ends14 (a b : Sp) (w : World) : Calls Try.prog 34 #[spV a, spV b] w fun e w' => e = .returned (.bool (fl a b)) ∧ Kept w w' := by
  have h := ends14f a b w
  rw [cmpE_lt] at h
  exact h
/-- Which spans are right. -/
def rightS (x : Sp) : Bool := decide (0 ≤ x.f ∧ x.f ≤ x.t ∧ x.t ≤ 1099511627776 ∧ 0 ≤ x.i ∧ x.i < 4096)
set_option maxRecDepth 100000 in
set_option maxHeartbeats 1600000 in
theorem right14 (x : Sp) (w : World) : Calls Try.prog 27 #[spV x] w fun e w' => e = .returned (.bool (rightS x)) ∧ Kept w w' := by
  have HR : Hid (∀ b : Bool, (b = true ↔ _) → rightS x = b) := fun b hb => by
    unfold rightS
    cases b
    · exact decide_eq_false fun h => by have := hb.2 h; cases this
    · exact decide_eq_true (hb.1 rfl)
  obtain ⟨f, t, i⟩ := x
  unfold spV
  simp only at HR ⊢
  generalize rightS _ = r at HR ⊢
  go_enter Try.func27, Try.ntmps27
  go_wp2_with fail
  all_goals (go_ret; refine ⟨?_, (Same.refl _ w).alloc _⟩; refine congrArg (fun z => Ending.returned (Value.bool z)) (HR.out _ ?_).symm)
  all_goals (constructor <;> intro h)
  all_goals (first | (cases h; done) | omega | (simp at h; omega) | (simp; omega))
end Go.Proofs.Ytaiaahcblohknaa
