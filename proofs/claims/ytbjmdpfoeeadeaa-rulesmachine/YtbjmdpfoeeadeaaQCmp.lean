/- What is proved: Compare tells how two rows stand to one another in an order, and the document's Before says the same, for every two rows; no condition. -/
import Derived.Test.YtbjmdpfoeeadeaaQVal
import Derived.Deep.RegionHeld3
namespace Go.Proofs.Ytbjmdpfoeeadeaa.Rw
open Go.RowKit

/-- How two numbers stand to one another. -/
def cmp3 (a b : Int) : Int := if a < b then -1 else if b < a then 1 else 0
def or3 (a b c : Int) : Int := if a ≠ 0 then a else if b ≠ 0 then b else c
/-- How two rows stand to one another in an order. -/
def comp (order : Int) (a b : RwM) : Int :=
  if order = 1 then or3 (cmp3 a.time b.time) (cmp3 a.kind b.kind) (cmp3 a.index b.index) else if order = 2 then or3 (cmp3 a.time b.time) (cmp3 a.seq b.seq) (cmp3 a.index b.index) else 0
theorem cmp3_lt {a b : Int} (h : a < b) : cmp3 a b = -1 := if_pos h
theorem cmp3_gt {a b : Int} (h : b < a) : cmp3 a b = 1 := by unfold cmp3; rw [if_neg (by omega), if_pos h]
theorem cmp3_eq (a : Int) : cmp3 a a = 0 := by unfold cmp3; rw [if_neg (by omega), if_neg (by omega)]
theorem cmp3_cases (a b : Int) : (a < b ∧ cmp3 a b = -1 ∧ cmp3 b a = 1) ∨ (b < a ∧ cmp3 a b = 1 ∧ cmp3 b a = -1) ∨ (a = b ∧ cmp3 a b = 0 ∧ cmp3 b a = 0) := by
  rcases Int.lt_trichotomy a b with h | rfl | h
  · exact .inl ⟨h, cmp3_lt h, cmp3_gt h⟩
  · exact .inr (.inr ⟨rfl, cmp3_eq _, cmp3_eq _⟩)
  · exact .inr (.inl ⟨h, cmp3_gt h, cmp3_lt h⟩)
theorem or3_ne {a b c : Int} (h : a ≠ 0) : or3 a b c = a := if_pos h
theorem or3_zero (b c : Int) : or3 0 b c = if b ≠ 0 then b else c := if_neg (by decide)

set_option maxRecDepth 100000 in
theorem isnan_any (x : Int) (w : World) : Calls Try.prog 72 #[.int .i64 x] w fun e w' => e = .returned (.bool false) ∧ w' = w := by
  have h : (x != x) = false := by simp
  go_enter Try.func72, Try.ntmps72
  go_wp2_with fail
  go_ret
  exact ⟨rfl, rfl⟩
set_option maxRecDepth 100000 in
set_option maxHeartbeats 800000 in
theorem cmpC_any (x y : Int) (w : World) : Calls Try.prog 58 #[.int .i64 x, .int .i64 y] w fun e w' => e = .returned (.int .i64 (cmp3 x y)) ∧ w' = w := by
  have HX : Hid (∀ W, _) := fun W => isnan_any x W
  have HY : Hid (∀ W, _) := fun W => isnan_any y W
  rcases cmp3_cases x y with ⟨h, e, -⟩ | ⟨h, e, -⟩ | ⟨rfl, e, -⟩
  · rw [e]
    have d : decide (x < y) = true := decide_eq_true h
    clear e
    go_enter Try.func58, Try.ntmps58
    go_wp2_with fail
    refine Calls.mono (HX.out _) ?_
    rintro r w1 ⟨rfl, rfl⟩
    go_wp2_with fail
    refine Calls.mono (HY.out _) ?_
    rintro r w1 ⟨rfl, rfl⟩
    go_wp2_with fail
    go_ret
    exact ⟨rfl, rfl⟩
  · rw [e]
    have d : decide (x < y) = false := decide_eq_false (by omega)
    have d2 : decide (y < x) = true := decide_eq_true h
    have h2 : ¬ x < y := by omega
    clear e
    go_enter Try.func58, Try.ntmps58
    go_wp2_with fail
    refine Calls.mono (HX.out _) ?_
    rintro r w1 ⟨rfl, rfl⟩
    go_wp2_with fail
    refine Calls.mono (HY.out _) ?_
    rintro r w1 ⟨rfl, rfl⟩
    go_wp2_with fail
    go_ret
    exact ⟨rfl, rfl⟩
  · rw [e]
    have d : decide (x < x) = false := decide_eq_false (by omega)
    clear e
    go_enter Try.func58, Try.ntmps58
    go_wp2_with fail
    refine Calls.mono (HX.out _) ?_
    rintro r w1 ⟨rfl, rfl⟩
    go_wp2_with fail
    refine Calls.mono (HY.out _) ?_
    rintro r w1 ⟨rfl, rfl⟩
    go_wp2_with fail
    go_ret
    exact ⟨rfl, rfl⟩

/-- The first number that is not 0. -/
def orL : List Int → Int
  | [] => 0
  | x :: r => if x ≠ 0 then x else orL r
theorem orL_three (a b c : Int) : orL [a, b, c] = or3 a b c := by
  simp only [orL, or3]
  by_cases h : c = 0
  · subst h; simp
  · simp [h]
set_option maxRecDepth 100000 in
set_option maxHeartbeats 1600000 in
theorem or_any (w : World) (g n : Nat) (xs : List Int) (h : ∀ i x, xs[i]? = some x → w.cell? ⟨g, i, none⟩ = some (.int .i64 x)) (hn : n = xs.length) (hs : n ≤ 3) :
    Calls Try.prog 59 #[.slice (some ⟨g, 0, none⟩) n n] w fun e w' => e = .returned (.int .i64 (orL xs)) ∧ w' = w := by
  have EN : Hid _ := hn
  have HC : Hid _ := h
  clear h hn
  go_enter Try.func59, Try.ntmps59
  go_wp2_with fail
  go_loop [8] (fun i => ∃ j : Nat, j ≤ n ∧ i = .int .i64 j ∧ orL xs = orL (xs.drop j)) (fun i => n - (intOf i).toNat)
  case atStart => exact ⟨0, Nat.zero_le _, rfl, rfl⟩
  case round =>
    obtain ⟨j, hj, rfl, hr⟩ := hrel
    by_cases hlt : j < n
    · have c1 : decide ((j : Int) < (n : Int)) = true := by simp only [decide_eq_true_eq]; omega
      have hlt2 : (j : Int) < (n : Int) := by omega
      obtain ⟨x, hx⟩ : ∃ x, xs[j]? = some x := ⟨_, List.getElem?_eq_getElem (by rw [← EN.out]; exact hlt)⟩
      have hc := HC.out j x hx
      have hd : xs.drop j = x :: xs.drop (j + 1) := by
        obtain ⟨hh, rfl⟩ := List.getElem?_eq_some_iff.1 hx
        exact List.drop_eq_getElem_cons hh
      rw [hd] at hr
      by_cases hz : x = 0
      · subst hz
        have HR : Hid (orL xs = orL (xs.drop (j + 1))) := hr
        clear hr hd hx
        go_wp2_with fail
        go_round
        case rel => exact ⟨j + 1, hlt, by rw [Int.natCast_add]; rfl, HR.out⟩
        case measure => simp only [intOf]; omega
      · have hz' : (x != 0) = true := by simpa using hz
        have HR : Hid (orL xs = x) := hr.trans (if_pos hz)
        clear hr hd hx hz
        go_wp2_with fail
        go_ret
        exact ⟨congrArg (fun z => Ending.returned (Value.int IntKind.i64 z)) HR.out.symm, rfl⟩
    · have ej : j = n := by omega
      subst ej
      have c1 : decide ((j : Int) < (j : Int)) = false := by simp
      have HR : Hid (orL xs = 0) := hr.trans (by rw [List.drop_eq_nil_of_le (by rw [← EN.out]; exact Nat.le_refl _)]; rfl)
      clear hr
      go_wp2_with fail
      go_ret
      exact ⟨congrArg (fun z => Ending.returned (Value.int IntKind.i64 z)) HR.out.symm, rfl⟩
theorem or_three (w : World) (g : Nat) (a b c : Int) (ty : TypeId) (h : w.heap[g]? = some (.cells #[.int .i64 a, .int .i64 b, .int .i64 c] ty (0, 0))) :
    Calls Try.prog 59 #[.slice (some ⟨g, 0, none⟩) 3 3] w fun e w' => e = .returned (.int .i64 (or3 a b c)) ∧ w' = w := by
  rw [← orL_three]
  refine or_any w g 3 [a, b, c] (fun i x hx => ?_) rfl (by decide)
  rw [cell_of h]
  match i, hx with
  | 0, hx => simp at hx; subst hx; rfl
  | 1, hx => simp at hx; subst hx; rfl
  | 2, hx => simp at hx; subst hx; rfl
  | n + 3, hx => simp at hx

/-- A world whose cells a comparison reads. -/
structure Cm (w W : World) (h : Nat) (t t' i i' : Int) : Prop where
  kept : Kept w W
  lt : h + 1 < W.heap.size
  c1 : W.cell? ⟨h, 1, none⟩ = some (.int .i64 t)
  c2 : W.cell? ⟨h + 1, 1, none⟩ = some (.int .i64 t')
  c3 : W.cell? ⟨h, 3, none⟩ = some (.int .i64 i)
  c4 : W.cell? ⟨h + 1, 3, none⟩ = some (.int .i64 i')
theorem cm_new (w : World) (a b : RwM) : Cm w ((w.alloc (.cells #[.int .i64 a.kind, .int .i64 a.time, .int .i64 a.seq, .int .i64 a.index, .int .i64 a.frm, .int .i64 a.til, .string a.body] 42 (0, 0))).alloc (.cells #[.int .i64 b.kind, .int .i64 b.time, .int .i64 b.seq, .int .i64 b.index, .int .i64 b.frm, .int .i64 b.til, .string b.body] 42 (0, 0))) w.heap.size a.time b.time a.index b.index := by
  have q1 := (heap_old _ (.cells #[.int .i64 b.kind, .int .i64 b.time, .int .i64 b.seq, .int .i64 b.index, .int .i64 b.frm, .int .i64 b.til, .string b.body] 42 (0, 0)) (by rw [World.size_alloc]; exact Nat.lt_succ_self _)).trans (heap_new w (.cells #[.int .i64 a.kind, .int .i64 a.time, .int .i64 a.seq, .int .i64 a.index, .int .i64 a.frm, .int .i64 a.til, .string a.body] 42 (0, 0)))
  have q2 := heap_new (w.alloc (.cells #[.int .i64 a.kind, .int .i64 a.time, .int .i64 a.seq, .int .i64 a.index, .int .i64 a.frm, .int .i64 a.til, .string a.body] 42 (0, 0))) (.cells #[.int .i64 b.kind, .int .i64 b.time, .int .i64 b.seq, .int .i64 b.index, .int .i64 b.frm, .int .i64 b.til, .string b.body] 42 (0, 0))
  rw [World.size_alloc] at q2
  exact ⟨((Same.refl _ w).alloc _).alloc _, by simp only [World.size_alloc]; omega, (cell_of q1 1).trans rfl, (cell_of q2 1).trans rfl, (cell_of q1 3).trans rfl, (cell_of q2 3).trans rfl⟩
theorem Cm.cells {w W : World} {h : Nat} {t t' i i' : Int} (m : Cm w W h t t' i i') (w3 : World) (k : Kept W w3) :
    Kept W w3 ∧ w3.cell? ⟨h, 1, none⟩ = some (.int .i64 t) ∧ w3.cell? ⟨h + 1, 1, none⟩ = some (.int .i64 t') ∧ w3.cell? ⟨h, 3, none⟩ = some (.int .i64 i) ∧ w3.cell? ⟨h + 1, 3, none⟩ = some (.int .i64 i') := by
  have h0 : h < W.heap.size := by have := m.lt; omega
  exact ⟨k, (k.cell (p := ⟨h, 1, none⟩) h0 (fun e => e)).trans m.c1, (k.cell (p := ⟨h + 1, 1, none⟩) m.lt (fun e => e)).trans m.c2, (k.cell (p := ⟨h, 3, none⟩) h0 (fun e => e)).trans m.c3, (k.cell (p := ⟨h + 1, 3, none⟩) m.lt (fun e => e)).trans m.c4⟩
set_option maxRecDepth 100000 in
set_option maxHeartbeats 800000 in
theorem compare_any (order : Int) (a b : RwM) (w : World) : Calls Try.prog 39 #[.int .i64 order, rowV a, rowV b] w fun e w' => e = .returned (.int .i64 (comp order a b)) ∧ Kept w w' := by
  have HC : Hid (∀ x y W, _) := cmpC_any
  have HO : Hid (∀ (W : World) (g : Nat) (a b c : Int) (ty : TypeId), W.heap[g]? = _ → _) := or_three
  have HM : Hid _ := cm_new w a b
  obtain ⟨kind, time, seq, index, frm, til, body⟩ := a
  obtain ⟨kind', time', seq', index', frm', til', body'⟩ := b
  unfold rowV comp
  simp only at HM ⊢
  by_cases h1 : order = 1
  · subst h1
    rw [if_pos rfl]
    go_enter Try.func39, Try.ntmps39
    go_wp2_with fail
    refine Calls.mono (HC.out _ _ _) ?_
    rintro r w1 ⟨rfl, rfl⟩
    generalize (w.alloc (.cells #[.int .i64 kind, .int .i64 time, .int .i64 seq, .int .i64 index, .int .i64 frm, .int .i64 til, .string body] 42 (0, 0))).alloc (.cells #[.int .i64 kind', .int .i64 time', .int .i64 seq', .int .i64 index', .int .i64 frm', .int .i64 til', .string body'] 42 (0, 0)) = W at HM ⊢
    generalize w.heap.size = h at HM ⊢
    have HBX : Hid (∀ w3, Kept W w3 → _) := fun w3 k3 => HM.out.cells w3 k3
    obtain ⟨k, hlt, c1, c2, c3, c4⟩ := HM.out
    have K : Hid _ := k
    clear k HM
    go_wp2_with fail
    go_region_held3 (fun w' => Kept W w' ∧ w'.cell? ⟨h, 1, none⟩ = some (.int .i64 time) ∧ w'.cell? ⟨h + 1, 1, none⟩ = some (.int .i64 time') ∧ w'.cell? ⟨h, 3, none⟩ = some (.int .i64 index) ∧ w'.cell? ⟨h + 1, 3, none⟩ = some (.int .i64 index'))
      (exact HBX.out _ (by (repeat (first | exact Same.refl _ _ | apply Same.alloc | apply Same.drew | apply Same.drewN)); done))
      (first
      | (go_at_call 58; refine Calls.mono (HC.out _ _ _) ?_; rintro r w1 ⟨rfl, rfl⟩)
      | (go_at_call 59; refine Calls.mono (HO.out _ _ _ _ _ 3 (by exact heap_new _ _)) ?_; rintro r w1 ⟨rfl, rfl⟩))
    all_goals (go_wp2_with fail)
    all_goals (go_ret; exact ⟨rfl, Same.trans' K.out (by (repeat (first | exact Same.refl _ _ | apply Same.alloc | apply Same.drew | apply Same.drewN)); done)⟩)
  by_cases h2 : order = 2
  · subst h2
    rw [if_neg (by decide), if_pos rfl]
    clear h1
    go_enter Try.func39, Try.ntmps39
    go_wp2_with fail
    refine Calls.mono (HC.out _ _ _) ?_
    rintro r w1 ⟨rfl, rfl⟩
    generalize (w.alloc (.cells #[.int .i64 kind, .int .i64 time, .int .i64 seq, .int .i64 index, .int .i64 frm, .int .i64 til, .string body] 42 (0, 0))).alloc (.cells #[.int .i64 kind', .int .i64 time', .int .i64 seq', .int .i64 index', .int .i64 frm', .int .i64 til', .string body'] 42 (0, 0)) = W at HM ⊢
    generalize w.heap.size = h at HM ⊢
    have HBX : Hid (∀ w3, Kept W w3 → _) := fun w3 k3 => HM.out.cells w3 k3
    obtain ⟨k, hlt, c1, c2, c3, c4⟩ := HM.out
    have K : Hid _ := k
    clear k HM
    go_wp2_with fail
    go_region_held3 (fun w' => Kept W w' ∧ w'.cell? ⟨h, 1, none⟩ = some (.int .i64 time) ∧ w'.cell? ⟨h + 1, 1, none⟩ = some (.int .i64 time') ∧ w'.cell? ⟨h, 3, none⟩ = some (.int .i64 index) ∧ w'.cell? ⟨h + 1, 3, none⟩ = some (.int .i64 index'))
      (exact HBX.out _ (by (repeat (first | exact Same.refl _ _ | apply Same.alloc | apply Same.drew | apply Same.drewN)); done))
      (first
      | (go_at_call 58; refine Calls.mono (HC.out _ _ _) ?_; rintro r w1 ⟨rfl, rfl⟩)
      | (go_at_call 59; refine Calls.mono (HO.out _ _ _ _ _ 3 (by exact heap_new _ _)) ?_; rintro r w1 ⟨rfl, rfl⟩))
    all_goals (go_wp2_with fail)
    all_goals (go_ret; exact ⟨rfl, Same.trans' K.out (by (repeat (first | exact Same.refl _ _ | apply Same.alloc | apply Same.drew | apply Same.drewN)); done)⟩)
  · rw [if_neg h1, if_neg h2]
    have d1 : (order == 1) = false := by simpa using h1
    have d2 : (order == 2) = false := by simpa using h2
    clear h1 h2
    go_enter Try.func39, Try.ntmps39
    go_wp2_with fail
    go_ret
    exact ⟨rfl, ((Same.refl _ w).alloc _).alloc _⟩

/-- Does a come before b? -/
def bef (order : Int) (a b : RwM) : Bool := decide (comp order a b = -1)
theorem comp_cases (order : Int) (a b : RwM) : comp order a b = -1 ∨ comp order a b = 0 ∨ comp order a b = 1 := by
  unfold comp
  rcases cmp3_cases a.time b.time with ⟨-, e1, -⟩ | ⟨-, e1, -⟩ | ⟨-, e1, -⟩ <;> rcases cmp3_cases a.kind b.kind with ⟨-, e2, -⟩ | ⟨-, e2, -⟩ | ⟨-, e2, -⟩ <;> rcases cmp3_cases a.index b.index with ⟨-, e3, -⟩ | ⟨-, e3, -⟩ | ⟨-, e3, -⟩ <;> rcases cmp3_cases a.seq b.seq with ⟨-, e4, -⟩ | ⟨-, e4, -⟩ | ⟨-, e4, -⟩ <;>
    rw [e1, e2, e3, e4] <;> by_cases h1 : order = 1 <;> by_cases h2 : order = 2 <;> simp [h1, h2, or3]
theorem comp_swap (order : Int) (a b : RwM) : comp order b a = - comp order a b := by
  unfold comp
  rcases cmp3_cases a.time b.time with ⟨-, e1, f1⟩ | ⟨-, e1, f1⟩ | ⟨-, e1, f1⟩ <;> rcases cmp3_cases a.kind b.kind with ⟨-, e2, f2⟩ | ⟨-, e2, f2⟩ | ⟨-, e2, f2⟩ <;> rcases cmp3_cases a.index b.index with ⟨-, e3, f3⟩ | ⟨-, e3, f3⟩ | ⟨-, e3, f3⟩ <;> rcases cmp3_cases a.seq b.seq with ⟨-, e4, f4⟩ | ⟨-, e4, f4⟩ | ⟨-, e4, f4⟩ <;>
    rw [e1, e2, e3, e4, f1, f2, f3, f4] <;> by_cases h1 : order = 1 <;> by_cases h2 : order = 2 <;> simp [h1, h2, or3]
theorem comp_self (order : Int) (a : RwM) : comp order a a = 0 := by
  unfold comp
  rw [cmp3_eq, cmp3_eq, cmp3_eq, cmp3_eq]
  by_cases h1 : order = 1 <;> by_cases h2 : order = 2 <;> simp [h1, h2, or3]
/-- What comes before, spelt out. -/
theorem bef_iff (order : Int) (a b : RwM) : bef order a b = true ↔ ((order = 1 ∨ order = 2) ∧ (a.time < b.time ∨ (a.time = b.time ∧ ((order = 1 ∧ a.kind < b.kind) ∨ (order = 2 ∧ a.seq < b.seq) ∨ (((order = 1 ∧ a.kind = b.kind) ∨ (order = 2 ∧ a.seq = b.seq)) ∧ a.index < b.index))))) := by
  unfold bef comp
  rw [decide_eq_true_iff]
  rcases cmp3_cases a.time b.time with ⟨g1, e1, -⟩ | ⟨g1, e1, -⟩ | ⟨g1, e1, -⟩ <;> rcases cmp3_cases a.kind b.kind with ⟨g2, e2, -⟩ | ⟨g2, e2, -⟩ | ⟨g2, e2, -⟩ <;> rcases cmp3_cases a.index b.index with ⟨g3, e3, -⟩ | ⟨g3, e3, -⟩ | ⟨g3, e3, -⟩ <;> rcases cmp3_cases a.seq b.seq with ⟨g4, e4, -⟩ | ⟨g4, e4, -⟩ | ⟨g4, e4, -⟩ <;>
    rw [e1, e2, e3, e4] <;> by_cases h1 : order = 1 <;> by_cases h2 : order = 2 <;> simp [h1, h2, or3] <;> omega
set_option maxRecDepth 100000 in
set_option maxHeartbeats 1600000 in
theorem before_any (order : Int) (a b : RwM) (w : World) : Calls Try.prog 21 #[.int .i64 order, rowV a, rowV b] w fun e w' => e = .returned (.bool (bef order a b)) ∧ Kept w w' := by
  have EV : Hid _ := bef_iff order a b
  generalize bef order a b = v at EV ⊢
  obtain ⟨kind, time, seq, index, frm, til, body⟩ := a
  obtain ⟨kind', time', seq', index', frm', til', body'⟩ := b
  unfold rowV
  simp only at EV ⊢
  by_cases h1 : order = 1
  · subst h1
    go_enter Try.func21, Try.ntmps21
    go_wp2
    all_goals (go_ret; refine ⟨congrArg Ending.returned (congrArg Value.bool (Bool.eq_iff_iff.2 ?_)), ((Same.refl _ w).alloc _).alloc _⟩)
    all_goals rw [EV.out]
    all_goals (try simp only [decide_eq_true_eq])
    all_goals first | omega | ((try simp only [true_and, true_or]); simp only [bne_iff_ne, ne_eq, bne_eq_false_iff_eq] at *; omega)
  by_cases h2 : order = 2
  · subst h2
    clear h1
    go_enter Try.func21, Try.ntmps21
    go_wp2
    all_goals (go_ret; refine ⟨congrArg Ending.returned (congrArg Value.bool (Bool.eq_iff_iff.2 ?_)), ((Same.refl _ w).alloc _).alloc _⟩)
    all_goals rw [EV.out]
    all_goals (try simp only [decide_eq_true_eq])
    all_goals first | omega | ((try simp only [true_and, or_true]); simp only [bne_iff_ne, ne_eq, bne_eq_false_iff_eq] at *; omega)
  · have d1 : (order != 1) = true := by simpa using h1
    have d2 : (order != 2) = true := by simpa using h2
    have EW : Hid (v = false) := by
      show v = false
      have := EV.out
      cases v
      · rfl
      · exfalso
        have := this.1 rfl
        omega
    clear h1 h2 EV
    go_enter Try.func21, Try.ntmps21
    go_wp2_with fail
    go_ret
    exact ⟨congrArg (fun z => Ending.returned (Value.bool z)) EW.out.symm, ((Same.refl _ w).alloc _).alloc _⟩
theorem row_obj {w : World} {b : Nat} {k t s i f u : Value} {y : Value} {ty : TypeId} (h : w.heap[b]? = some (.cells #[k, t, s, i, f, u, y] ty (0, 0))) :
    (w.cell? ⟨b, 0, none⟩ = some k ∧ w.cell? ⟨b, 1, none⟩ = some t ∧ w.cell? ⟨b, 2, none⟩ = some s ∧ w.cell? ⟨b, 3, none⟩ = some i ∧ w.cell? ⟨b, 4, none⟩ = some f ∧ w.cell? ⟨b, 5, none⟩ = some u ∧ w.cell? ⟨b, 6, none⟩ = some y) ∧
      w.frozen? ⟨b, 0, none⟩ = false ∧ w.frozen? ⟨b, 1, none⟩ = false ∧ w.frozen? ⟨b, 2, none⟩ = false ∧ w.frozen? ⟨b, 3, none⟩ = false ∧ w.frozen? ⟨b, 4, none⟩ = false ∧ w.frozen? ⟨b, 5, none⟩ = false ∧ w.frozen? ⟨b, 6, none⟩ = false :=
  ⟨⟨(cell_of h 0).trans rfl, (cell_of h 1).trans rfl, (cell_of h 2).trans rfl, (cell_of h 3).trans rfl, (cell_of h 4).trans rfl, (cell_of h 5).trans rfl, (cell_of h 6).trans rfl⟩, frozen_of h 0, frozen_of h 1, frozen_of h 2, frozen_of h 3, frozen_of h 4, frozen_of h 5, frozen_of h 6⟩
theorem loadVar_row {w : World} {b : Nat} {r : RwM} {ty : TypeId} (hty : ty = 42 ∨ ty = 43) (h : w.heap[b]? = some (.cells #[.int .i64 r.kind, .int .i64 r.time, .int .i64 r.seq, .int .i64 r.index, .int .i64 r.frm, .int .i64 r.til, .string r.body] ty (0, 0))) :
    (loadVar ty ⟨b, 0, none⟩).run Try.prog w = .ok (rowV r) w := by
  obtain ⟨⟨c0, c1, c2, c3, c4, c5, c6⟩, -⟩ := row_obj h
  clear h
  unfold rowV
  rcases hty with rfl | rfl
  · go_simp
  · go_simp
theorem results_c {fn : Func} {a t : Nat} {P : Program} {w : World} {tmps : Array Value} {ad : Addr} {v : Value} (h : fn.results = #[.cell a t]) (ha : tmps.getD a undef = .pointer (some ad)) (hv : (loadVar t ad).run P w = .ok v w) : (results fn tmps).run P w = .ok v w := by
  have ha' : tmps[a]?.getD undef = .pointer (some ad) := by simpa using ha
  simp [results, h, ha', asAddr, hv]
theorem results_ctt {fn : Func} {a t u s : Nat} {P : Program} {w : World} {tmps : Array Value} {ad : Addr} {v : Value} (h : fn.results = #[.cell a t, .tmp u, .tmp s]) (ha : tmps.getD a undef = .pointer (some ad)) (hv : (loadVar t ad).run P w = .ok v w) : (results fn tmps).run P w = .ok (.tuple #[v, tmps.getD u undef, tmps.getD s undef]) w := by
  have ha' : tmps[a]?.getD undef = .pointer (some ad) := by simpa using ha
  simp [results, h, ha', asAddr, hv]
set_option maxRecDepth 100000 in
theorem plain_any (r : RwM) (w : World) : Calls Try.prog 16 #[rowV r] w fun e w' => e = .returned (rowV r) ∧ Kept w w' := by
  obtain ⟨kind, time, seq, index, frm, til, body⟩ := r
  unfold rowV
  simp only
  go_enter Try.func16, Try.ntmps16
  go_wp2_with fail
  have h2 := heap_new (w.alloc (.cells #[.int .i64 kind, .int .i64 time, .int .i64 seq, .int .i64 index, .int .i64 frm, .int .i64 til, .string body] 42 (0, 0))) (.cells #[.int .i64 kind, .int .i64 time, .int .i64 seq, .int .i64 index, .int .i64 frm, .int .i64 til, .string body] 43 (0, 0))
  rw [World.size_alloc] at h2
  refine bodyPost_ret (results_c (a := 2) (t := 43) rfl rfl (loadVar_row (r := ⟨kind, time, seq, index, frm, til, body⟩) (.inr rfl) h2)) rfl ?_
  exact ⟨rfl, ((Same.refl _ w).alloc _).alloc _⟩
end Go.Proofs.Ytbjmdpfoeeadeaa.Rw
