/- What is proved: compareEdges tells how two edges stand to one another, for every two; no condition. -/
import Derived.Test.YtbhihmkgimdjpaaDoorGhS
namespace Go.Proofs.YtbhihmkgimdjpaaDoor
open Go.RowKit

/-- How two numbers stand to one another. -/
def cmp3 (a b : Int) : Int := if a < b then -1 else if b < a then 1 else 0
theorem cmp3_lt {a b : Int} (h : a < b) : cmp3 a b = -1 := if_pos h
theorem cmp3_gt {a b : Int} (h : b < a) : cmp3 a b = 1 := by unfold cmp3; rw [if_neg (by omega), if_pos h]
theorem cmp3_eq (a : Int) : cmp3 a a = 0 := by unfold cmp3; rw [if_neg (by omega), if_neg (by omega)]
theorem cmp3_cases (a b : Int) : (a < b ∧ cmp3 a b = -1 ∧ cmp3 b a = 1) ∨ (b < a ∧ cmp3 a b = 1 ∧ cmp3 b a = -1) ∨ (a = b ∧ cmp3 a b = 0 ∧ cmp3 b a = 0) := by
  rcases Int.lt_trichotomy a b with h | rfl | h
  · exact .inl ⟨h, cmp3_lt h, cmp3_gt h⟩
  · exact .inr (.inr ⟨rfl, cmp3_eq _, cmp3_eq _⟩)
  · exact .inr (.inl ⟨h, cmp3_gt h, cmp3_lt h⟩)
set_option maxRecDepth 100000 in
theorem isnan_any (x : Int) (w : World) : Calls Tryd.prog 57 #[.int .i64 x] w fun e w' => e = .returned (.bool false) ∧ w' = w := by
  have h : (x != x) = false := by simp
  go_enter Tryd.func57, Tryd.ntmps57
  go_wp2_with fail
  go_ret
  exact ⟨rfl, rfl⟩
set_option maxRecDepth 100000 in
set_option maxHeartbeats 800000 in
theorem cmpC_any (x y : Int) (w : World) : Calls Tryd.prog 48 #[.int .i64 x, .int .i64 y] w fun e w' => e = .returned (.int .i64 (cmp3 x y)) ∧ w' = w := by
  have HX : Hid (∀ W, _) := fun W => isnan_any x W
  have HY : Hid (∀ W, _) := fun W => isnan_any y W
  rcases cmp3_cases x y with ⟨h, e, -⟩ | ⟨h, e, -⟩ | ⟨rfl, e, -⟩
  · rw [e]
    have d : decide (x < y) = true := decide_eq_true h
    clear e
    go_enter Tryd.func48, Tryd.ntmps48
    go_wp2_with fail
    refine Calls.mono (HX.out _) ?_
    rintro r w1 ⟨rfl, rfl⟩
    go_wp2_with fail
    refine Calls.mono (HY.out _) ?_
    rintro r w1 ⟨rfl, rfl⟩
    go_wp2_with fail
    go_ret
    exact ⟨rfl, rfl⟩
  · rw [e]
    have d : decide (x < y) = false := decide_eq_false (by omega)
    have d2 : decide (y < x) = true := decide_eq_true h
    have h2 : ¬ x < y := by omega
    clear e
    go_enter Tryd.func48, Tryd.ntmps48
    go_wp2_with fail
    refine Calls.mono (HX.out _) ?_
    rintro r w1 ⟨rfl, rfl⟩
    go_wp2_with fail
    refine Calls.mono (HY.out _) ?_
    rintro r w1 ⟨rfl, rfl⟩
    go_wp2_with fail
    go_ret
    exact ⟨rfl, rfl⟩
  · rw [e]
    have d : decide (x < x) = false := decide_eq_false (by omega)
    clear e
    go_enter Tryd.func48, Tryd.ntmps48
    go_wp2_with fail
    refine Calls.mono (HX.out _) ?_
    rintro r w1 ⟨rfl, rfl⟩
    go_wp2_with fail
    refine Calls.mono (HY.out _) ?_
    rintro r w1 ⟨rfl, rfl⟩
    go_wp2_with fail
    go_ret
    exact ⟨rfl, rfl⟩

/-- The first number that is not 0. -/
def orL : List Int → Int
  | [] => 0
  | x :: r => if x ≠ 0 then x else orL r
set_option maxRecDepth 100000 in
set_option maxHeartbeats 1600000 in
theorem or_any (w : World) (g n : Nat) (xs : List Int) (h : ∀ i x, xs[i]? = some x → w.cell? ⟨g, i, none⟩ = some (.int .i64 x)) (hn : n = xs.length) (hs : n ≤ 4) :
    Calls Tryd.prog 47 #[.slice (some ⟨g, 0, none⟩) n n] w fun e w' => e = .returned (.int .i64 (orL xs)) ∧ w' = w := by
  have EN : Hid _ := hn
  have HC : Hid _ := h
  clear h hn
  go_enter Tryd.func47, Tryd.ntmps47
  go_wp2_with fail
  go_loop [8] (fun i => ∃ j : Nat, j ≤ n ∧ i = .int .i64 j ∧ orL xs = orL (xs.drop j)) (fun i => n - (intOf i).toNat)
  case atStart => exact ⟨0, Nat.zero_le _, rfl, rfl⟩
  case round =>
    obtain ⟨j, hj, rfl, hr⟩ := hrel
    by_cases hlt : j < n
    · have c1 : decide ((j : Int) < (n : Int)) = true := by simp only [decide_eq_true_eq]; omega
      have hlt2 : (j : Int) < (n : Int) := by omega
      obtain ⟨x, hx⟩ : ∃ x, xs[j]? = some x := ⟨_, List.getElem?_eq_getElem (by rw [← EN.out]; exact hlt)⟩
      have hc := HC.out j x hx
      have hd : xs.drop j = x :: xs.drop (j + 1) := by
        obtain ⟨hh, rfl⟩ := List.getElem?_eq_some_iff.1 hx
        exact List.drop_eq_getElem_cons hh
      rw [hd] at hr
      by_cases hz : x = 0
      · subst hz
        have HR : Hid (orL xs = orL (xs.drop (j + 1))) := hr
        clear hr hd hx
        go_wp2_with fail
        go_round
        case rel => exact ⟨j + 1, hlt, by rw [Int.natCast_add]; rfl, HR.out⟩
        case measure => simp only [intOf]; omega
      · have hz' : (x != 0) = true := by simpa using hz
        have HR : Hid (orL xs = x) := hr.trans (if_pos hz)
        clear hr hd hx hz
        go_wp2_with fail
        go_ret
        exact ⟨congrArg (fun z => Ending.returned (Value.int IntKind.i64 z)) HR.out.symm, rfl⟩
    · have ej : j = n := by omega
      subst ej
      have c1 : decide ((j : Int) < (j : Int)) = false := by simp
      have HR : Hid (orL xs = 0) := hr.trans (by rw [List.drop_eq_nil_of_le (by rw [← EN.out]; exact Nat.le_refl _)]; rfl)
      clear hr
      go_wp2_with fail
      go_ret
      exact ⟨congrArg (fun z => Ending.returned (Value.int IntKind.i64 z)) HR.out.symm, rfl⟩
theorem or_three (w : World) (g : Nat) (a b c : Int) (ty : TypeId) (h : w.heap[g]? = some (.cells #[.int .i64 a, .int .i64 b, .int .i64 c] ty (0, 0))) :
    Calls Tryd.prog 47 #[.slice (some ⟨g, 0, none⟩) 3 3] w fun e w' => e = .returned (.int .i64 (orL [a, b, c])) ∧ w' = w := by
  refine or_any w g 3 [a, b, c] (fun i x hx => ?_) rfl (by decide)
  rw [cell_of h]
  match i, hx with
  | 0, hx => simp at hx; subst hx; rfl
  | 1, hx => simp at hx; subst hx; rfl
  | 2, hx => simp at hx; subst hx; rfl
  | n + 3, hx => simp at hx
/-- How two edges stand to one another. -/
def compE (a b : Eg) : Int := orL [cmp3 a.f b.f, cmp3 a.t b.t, cmp3 a.l b.l]
theorem compE_lt (a b : Eg) : decide (compE a b < 0) = ltE a b := by
  rw [Bool.eq_iff_iff, ltE_iff, decide_eq_true_iff]
  unfold compE
  rcases cmp3_cases a.f b.f with ⟨g1, e1, -⟩ | ⟨g1, e1, -⟩ | ⟨g1, e1, -⟩ <;> rcases cmp3_cases a.t b.t with ⟨g2, e2, -⟩ | ⟨g2, e2, -⟩ | ⟨g2, e2, -⟩ <;> rcases cmp3_cases a.l b.l with ⟨g3, e3, -⟩ | ⟨g3, e3, -⟩ | ⟨g3, e3, -⟩ <;>
    rw [e1, e2, e3] <;> simp [orL] <;> omega
set_option maxRecDepth 100000 in
set_option maxHeartbeats 3200000 in
theorem compare19 (a b : Eg) (w : World) : Calls Tryd.prog 32 #[egV a, egV b] w fun e w' => e = .returned (.int .i64 (compE a b)) ∧ Grw w w' := by
  have HC : Hid (∀ x y W, _) := cmpC_any
  have HO : Hid (∀ (W : World) (g : Nat) (a b c : Int) (ty : TypeId), W.heap[g]? = _ → _) := or_three
  have HB1 : Hid (∀ W, Kept ((w.alloc (egO a)).alloc (egO b)) W → W.heap[w.heap.size]? = some (egO a)) := fun W k => (k.block _ (by simp only [World.size_alloc]; omega) (fun e => e)).trans ((heap_old _ (egO b) (by rw [World.size_alloc]; exact Nat.lt_succ_self _)).trans (heap_new w (egO a)))
  have HB2 : Hid (∀ W, Kept ((w.alloc (egO a)).alloc (egO b)) W → W.heap[w.heap.size + 1]? = some (egO b)) := fun W k => (k.block _ (by simp only [World.size_alloc]; omega) (fun e => e)).trans (by have q2 := heap_new (w.alloc (egO a)) (egO b); rwa [World.size_alloc] at q2)
  have HG : Hid (Grw w ((w.alloc (egO a)).alloc (egO b))) := ((Grw.refl w).alloc _).alloc _
  unfold compE
  obtain ⟨af, at', al⟩ := a
  obtain ⟨bf, bt, bl⟩ := b
  simp only at HB1 HB2 HG ⊢
  go_enter Tryd.func32, Tryd.ntmps32
  go_upto_region 1 with fail
  generalize (w.alloc _).alloc _ = W at HB1 HB2 HG ⊢
  generalize w.heap.size = h at HB1 HB2 ⊢
  have HBX : Hid (∀ w3, Grw W w3 → Grw w w3 ∧ w3.cell? ⟨h, 0, none⟩ = some (.int .i64 af) ∧ w3.cell? ⟨h, 1, none⟩ = some (.int .i64 at') ∧ w3.cell? ⟨h, 2, none⟩ = some (.int .i64 al) ∧ w3.cell? ⟨h + 1, 0, none⟩ = some (.int .i64 bf) ∧ w3.cell? ⟨h + 1, 1, none⟩ = some (.int .i64 bt) ∧ w3.cell? ⟨h + 1, 2, none⟩ = some (.int .i64 bl)) := fun w3 k3 => by
    have h1 := HB1.out w3 k3.kept
    have h2 := HB2.out w3 k3.kept
    exact ⟨HG.out.trans k3, (cell_of h1 0).trans rfl, (cell_of h1 1).trans rfl, (cell_of h1 2).trans rfl, (cell_of h2 0).trans rfl, (cell_of h2 1).trans rfl, (cell_of h2 2).trans rfl⟩
  obtain ⟨k, c0, c1, c2, d0, d1, d2⟩ := HBX.out W (Grw.refl W)
  clear k HB1 HB2
  go_region_held3 (fun w' => Grw w w' ∧ w'.cell? ⟨h, 0, none⟩ = some (.int .i64 af) ∧ w'.cell? ⟨h, 1, none⟩ = some (.int .i64 at') ∧ w'.cell? ⟨h, 2, none⟩ = some (.int .i64 al) ∧ w'.cell? ⟨h + 1, 0, none⟩ = some (.int .i64 bf) ∧ w'.cell? ⟨h + 1, 1, none⟩ = some (.int .i64 bt) ∧ w'.cell? ⟨h + 1, 2, none⟩ = some (.int .i64 bl))
    (exact HBX.out _ (by (repeat (first | exact Grw.refl _ | assumption | (refine Grw.trans ?_ (by assumption)) | apply Grw.alloc | apply Grw.drew | apply Grw.drewN)); done))
    (first
    | (go_at_call 48; refine Calls.mono (HC.out _ _ _) ?_; rintro r w1 ⟨rfl, rfl⟩)
    | (go_at_call 47; refine Calls.mono (HO.out _ _ _ _ _ 3 (by exact heap_new _ _)) ?_; rintro r w1 ⟨rfl, rfl⟩))
  all_goals (go_wp2_with fail)
  all_goals (go_ret; exact ⟨rfl, Grw.trans HG.out (by (repeat (first | exact Grw.refl _ | (refine Grw.trans ?_ (by assumption)) | apply Grw.alloc | apply Grw.drew | apply Grw.drewN)); done)⟩)
end Go.Proofs.YtbhihmkgimdjpaaDoor
