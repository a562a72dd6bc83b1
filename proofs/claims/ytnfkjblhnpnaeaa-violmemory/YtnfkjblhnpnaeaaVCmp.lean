/- What is proved: how two violations stand to one another, and Compare and compareNumbered tell it, for every two; no condition. -/
import Derived.Test.YtnfkjblhnpnaeaaVRow
namespace Go.Proofs.Ytnfkjblhnpnaeaa
open Go.RowKit

/-- How two numbers stand to one another. -/
def cmp3 (a b : Int) : Int := if a < b then -1 else if b < a then 1 else 0
theorem cmp3_lt {a b : Int} (h : a < b) : cmp3 a b = -1 := if_pos h
theorem cmp3_gt {a b : Int} (h : b < a) : cmp3 a b = 1 := by unfold cmp3; rw [if_neg (by omega), if_pos h]
theorem cmp3_eq (a : Int) : cmp3 a a = 0 := by unfold cmp3; rw [if_neg (by omega), if_neg (by omega)]
theorem cmp3_cases (a b : Int) : (a < b ∧ cmp3 a b = -1 ∧ cmp3 b a = 1) ∨ (b < a ∧ cmp3 a b = 1 ∧ cmp3 b a = -1) ∨ (a = b ∧ cmp3 a b = 0 ∧ cmp3 b a = 0) := by
  rcases Int.lt_trichotomy a b with h | rfl | h
  · exact .inl ⟨h, cmp3_lt h, cmp3_gt h⟩
  · exact .inr (.inr ⟨rfl, cmp3_eq _, cmp3_eq _⟩)
  · exact .inr (.inl ⟨h, cmp3_gt h, cmp3_lt h⟩)
set_option maxRecDepth 100000 in
theorem isnan_any (x : Int) (w : World) : Calls Try.prog 39 #[.int .i64 x] w fun e w' => e = .returned (.bool false) ∧ w' = w := by
  have h : (x != x) = false := by simp
  go_enter Try.func39, Try.ntmps39
  go_wp2_with fail
  go_ret
  exact ⟨rfl, rfl⟩
set_option maxRecDepth 100000 in
set_option maxHeartbeats 800000 in
theorem cmpC_any (x y : Int) (w : World) : Calls Try.prog 29 #[.int .i64 x, .int .i64 y] w fun e w' => e = .returned (.int .i64 (cmp3 x y)) ∧ w' = w := by
  have HX : Hid (∀ W, _) := fun W => isnan_any x W
  have HY : Hid (∀ W, _) := fun W => isnan_any y W
  rcases cmp3_cases x y with ⟨h, e, -⟩ | ⟨h, e, -⟩ | ⟨rfl, e, -⟩
  · rw [e]
    have d : decide (x < y) = true := decide_eq_true h
    clear e
    go_enter Try.func29, Try.ntmps29
    go_wp2_with fail
    refine Calls.mono (HX.out _) ?_
    rintro r w1 ⟨rfl, rfl⟩
    go_wp2_with fail
    refine Calls.mono (HY.out _) ?_
    rintro r w1 ⟨rfl, rfl⟩
    go_wp2_with fail
    go_ret
    exact ⟨rfl, rfl⟩
  · rw [e]
    have d : decide (x < y) = false := decide_eq_false (by omega)
    have d2 : decide (y < x) = true := decide_eq_true h
    have h2 : ¬ x < y := by omega
    clear e
    go_enter Try.func29, Try.ntmps29
    go_wp2_with fail
    refine Calls.mono (HX.out _) ?_
    rintro r w1 ⟨rfl, rfl⟩
    go_wp2_with fail
    refine Calls.mono (HY.out _) ?_
    rintro r w1 ⟨rfl, rfl⟩
    go_wp2_with fail
    go_ret
    exact ⟨rfl, rfl⟩
  · rw [e]
    have d : decide (x < x) = false := decide_eq_false (by omega)
    clear e
    go_enter Try.func29, Try.ntmps29
    go_wp2_with fail
    refine Calls.mono (HX.out _) ?_
    rintro r w1 ⟨rfl, rfl⟩
    go_wp2_with fail
    refine Calls.mono (HY.out _) ?_
    rintro r w1 ⟨rfl, rfl⟩
    go_wp2_with fail
    go_ret
    exact ⟨rfl, rfl⟩

/-- The first number that is not 0. -/
def orL : List Int → Int
  | [] => 0
  | x :: r => if x ≠ 0 then x else orL r
set_option maxRecDepth 100000 in
set_option maxHeartbeats 1600000 in
theorem or_any (w : World) (g n : Nat) (xs : List Int) (h : ∀ i x, xs[i]? = some x → w.cell? ⟨g, i, none⟩ = some (.int .i64 x)) (hn : n = xs.length) (hs : n ≤ 4) :
    Calls Try.prog 28 #[.slice (some ⟨g, 0, none⟩) n n] w fun e w' => e = .returned (.int .i64 (orL xs)) ∧ w' = w := by
  have EN : Hid _ := hn
  have HC : Hid _ := h
  clear h hn
  go_enter Try.func28, Try.ntmps28
  go_wp2_with fail
  go_loop [8] (fun i => ∃ j : Nat, j ≤ n ∧ i = .int .i64 j ∧ orL xs = orL (xs.drop j)) (fun i => n - (intOf i).toNat)
  case atStart => exact ⟨0, Nat.zero_le _, rfl, rfl⟩
  case round =>
    obtain ⟨j, hj, rfl, hr⟩ := hrel
    by_cases hlt : j < n
    · have c1 : decide ((j : Int) < (n : Int)) = true := by simp only [decide_eq_true_eq]; omega
      have hlt2 : (j : Int) < (n : Int) := by omega
      obtain ⟨x, hx⟩ : ∃ x, xs[j]? = some x := ⟨_, List.getElem?_eq_getElem (by rw [← EN.out]; exact hlt)⟩
      have hc := HC.out j x hx
      have hd : xs.drop j = x :: xs.drop (j + 1) := by
        obtain ⟨hh, rfl⟩ := List.getElem?_eq_some_iff.1 hx
        exact List.drop_eq_getElem_cons hh
      rw [hd] at hr
      by_cases hz : x = 0
      · subst hz
        have HR : Hid (orL xs = orL (xs.drop (j + 1))) := hr
        clear hr hd hx
        go_wp2_with fail
        go_round
        case rel => exact ⟨j + 1, hlt, by rw [Int.natCast_add]; rfl, HR.out⟩
        case measure => simp only [intOf]; omega
      · have hz' : (x != 0) = true := by simpa using hz
        have HR : Hid (orL xs = x) := hr.trans (if_pos hz)
        clear hr hd hx hz
        go_wp2_with fail
        go_ret
        exact ⟨congrArg (fun z => Ending.returned (Value.int IntKind.i64 z)) HR.out.symm, rfl⟩
    · have ej : j = n := by omega
      subst ej
      have c1 : decide ((j : Int) < (j : Int)) = false := by simp
      have HR : Hid (orL xs = 0) := hr.trans (by rw [List.drop_eq_nil_of_le (by rw [← EN.out]; exact Nat.le_refl _)]; rfl)
      clear hr
      go_wp2_with fail
      go_ret
      exact ⟨congrArg (fun z => Ending.returned (Value.int IntKind.i64 z)) HR.out.symm, rfl⟩
/-- A violation. -/
@[ext] structure Vl where
  kd : Int
  tm : Int
  tx : Int
  op : Int
  wi : Int
  key : ByteArray
  wa : Bool
  ex : ByteArray
  go : Bool
  ob : ByteArray
  fr : Int
  tt : Int
  deriving Inhabited, DecidableEq
abbrev vl1 (x : Vl) : List Value := [.int .i64 x.kd, .int .i64 x.tm, .int .i64 x.tx, .int .i64 x.op, .int .i64 x.wi, .string x.key, .bool x.wa, .string x.ex, .bool x.go, .string x.ob, .int .i64 x.fr, .int .i64 x.tt]
/-- A violation with its number. -/
structure Nb where
  v : Vl
  n : Int
  deriving Inhabited, DecidableEq
abbrev nb1 (x : Nb) : List Value := [.int .i64 x.v.kd, .int .i64 x.v.tm, .int .i64 x.v.tx, .int .i64 x.v.op, .int .i64 x.v.wi, .string x.v.key, .bool x.v.wa, .string x.v.ex, .bool x.v.go, .string x.v.ob, .int .i64 x.v.fr, .int .i64 x.v.tt, .int .i64 x.n]
abbrev vlV (x : Vl) : Value := .agg #[.int .i64 x.kd, .int .i64 x.tm, .int .i64 x.tx, .int .i64 x.op, .int .i64 x.wi, .string x.key, .bool x.wa, .string x.ex, .bool x.go, .string x.ob, .int .i64 x.fr, .int .i64 x.tt]
abbrev nbV (x : Nb) : Value := .agg #[.int .i64 x.v.kd, .int .i64 x.v.tm, .int .i64 x.v.tx, .int .i64 x.v.op, .int .i64 x.v.wi, .string x.v.key, .bool x.v.wa, .string x.v.ex, .bool x.v.go, .string x.v.ob, .int .i64 x.v.fr, .int .i64 x.v.tt, .int .i64 x.n]
abbrev vlO (x : Vl) : Obj := .cells #[.int .i64 x.kd, .int .i64 x.tm, .int .i64 x.tx, .int .i64 x.op, .int .i64 x.wi, .string x.key, .bool x.wa, .string x.ex, .bool x.go, .string x.ob, .int .i64 x.fr, .int .i64 x.tt] 30 (0, 0)
abbrev nbO (x : Nb) : Obj := .cells #[.int .i64 x.v.kd, .int .i64 x.v.tm, .int .i64 x.v.tx, .int .i64 x.v.op, .int .i64 x.v.wi, .string x.v.key, .bool x.v.wa, .string x.v.ex, .bool x.v.go, .string x.v.ob, .int .i64 x.v.fr, .int .i64 x.v.tt, .int .i64 x.n] 55 (0, 0)
theorem ekV : Ek vl1 12 := ⟨fun _ => rfl, fun x v hv => by
  simp only [List.mem_cons, List.not_mem_nil, or_false] at hv
  rcases hv with rfl | rfl | rfl | rfl | rfl | rfl | rfl | rfl | rfl | rfl | rfl | rfl <;> rfl, by decide⟩
theorem ekN : Ek nb1 13 := ⟨fun _ => rfl, fun x v hv => by
  simp only [List.mem_cons, List.not_mem_nil, or_false] at hv
  rcases hv with rfl | rfl | rfl | rfl | rfl | rfl | rfl | rfl | rfl | rfl | rfl | rfl | rfl <;> rfl, by decide⟩
theorem Try.infoViol : (Try.prog.info? 30).map (fun i => (i.zero, i.size, i.bytes)) = some (some (.agg #[.int .i64 0, .int .i64 0, .int .i64 0, .int .i64 0, .int .i64 0, .string .empty, .bool false, .string .empty, .bool false, .string .empty, .int .i64 0, .int .i64 0]), 12, 120) := by kernel_rfl
theorem Try.infoNumb : (Try.prog.info? 55).map (fun i => (i.zero, i.size, i.bytes)) = some (some (.agg #[.int .i64 0, .int .i64 0, .int .i64 0, .int .i64 0, .int .i64 0, .string .empty, .bool false, .string .empty, .bool false, .string .empty, .int .i64 0, .int .i64 0, .int .i64 0]), 13, 128) := by kernel_rfl

/-- How two violations stand to one another. -/
def compV (a b : Vl) : Int := orL [cmp3 a.tm b.tm, cmp3 a.kd b.kd, cmp3 a.tx b.tx, cmp3 a.op b.op]
def compN (a b : Nb) : Int := orL [compV a.v b.v, cmp3 a.n b.n]
/-- Does a come before b? -/
def ltV (a b : Vl) : Bool := decide (compV a b < 0)
def ltN (a b : Nb) : Bool := decide (compN a b < 0)
theorem compV_lt (a b : Vl) : compV a b < 0 ↔ (a.tm < b.tm ∨ (a.tm = b.tm ∧ (a.kd < b.kd ∨ (a.kd = b.kd ∧ (a.tx < b.tx ∨ (a.tx = b.tx ∧ a.op < b.op)))))) := by
  unfold compV
  rcases cmp3_cases a.tm b.tm with ⟨g1, e1, -⟩ | ⟨g1, e1, -⟩ | ⟨g1, e1, -⟩ <;> rcases cmp3_cases a.kd b.kd with ⟨g2, e2, -⟩ | ⟨g2, e2, -⟩ | ⟨g2, e2, -⟩ <;> rcases cmp3_cases a.tx b.tx with ⟨g3, e3, -⟩ | ⟨g3, e3, -⟩ | ⟨g3, e3, -⟩ <;> rcases cmp3_cases a.op b.op with ⟨g4, e4, -⟩ | ⟨g4, e4, -⟩ | ⟨g4, e4, -⟩ <;>
    rw [e1, e2, e3, e4] <;> simp [orL] <;> omega
theorem compV_swap (a b : Vl) : compV b a = - compV a b := by
  unfold compV
  rcases cmp3_cases a.tm b.tm with ⟨g1, e1, f1⟩ | ⟨g1, e1, f1⟩ | ⟨g1, e1, f1⟩ <;> rcases cmp3_cases a.kd b.kd with ⟨g2, e2, f2⟩ | ⟨g2, e2, f2⟩ | ⟨g2, e2, f2⟩ <;> rcases cmp3_cases a.tx b.tx with ⟨g3, e3, f3⟩ | ⟨g3, e3, f3⟩ | ⟨g3, e3, f3⟩ <;> rcases cmp3_cases a.op b.op with ⟨g4, e4, f4⟩ | ⟨g4, e4, f4⟩ | ⟨g4, e4, f4⟩ <;>
    rw [e1, e2, e3, e4, f1, f2, f3, f4] <;> simp [orL]
theorem compV_cases (a b : Vl) : compV a b = -1 ∨ compV a b = 0 ∨ compV a b = 1 := by
  unfold compV
  rcases cmp3_cases a.tm b.tm with ⟨g1, e1, f1⟩ | ⟨g1, e1, f1⟩ | ⟨g1, e1, f1⟩ <;> rcases cmp3_cases a.kd b.kd with ⟨g2, e2, f2⟩ | ⟨g2, e2, f2⟩ | ⟨g2, e2, f2⟩ <;> rcases cmp3_cases a.tx b.tx with ⟨g3, e3, f3⟩ | ⟨g3, e3, f3⟩ | ⟨g3, e3, f3⟩ <;> rcases cmp3_cases a.op b.op with ⟨g4, e4, f4⟩ | ⟨g4, e4, f4⟩ | ⟨g4, e4, f4⟩ <;>
    rw [e1, e2, e3, e4] <;> simp [orL]
theorem ltV_iff (a b : Vl) : ltV a b = true ↔ (a.tm < b.tm ∨ (a.tm = b.tm ∧ (a.kd < b.kd ∨ (a.kd = b.kd ∧ (a.tx < b.tx ∨ (a.tx = b.tx ∧ a.op < b.op)))))) := by
  unfold ltV
  rw [decide_eq_true_iff, compV_lt]
theorem ltV_swo : SWO ltV := by
  constructor
  · intro a b h
    cases h2 : ltV b a
    · rfl
    · rw [ltV_iff] at h h2
      omega
  · intro a b c h1 h2
    cases h3 : ltV a c
    · rfl
    · have h1' : ¬ ltV a b = true := by rw [h1]; decide
      have h2' : ¬ ltV b c = true := by rw [h2]; decide
      rw [ltV_iff] at h1' h2' h3
      omega
theorem ltN_iff (a b : Nb) : ltN a b = true ↔ (ltV a.v b.v = true ∨ (ltV b.v a.v = false ∧ a.n < b.n)) := by
  unfold ltN compN ltV
  rw [compV_swap a.v b.v]
  rcases compV_cases a.v b.v with e | e | e <;> rcases cmp3_cases a.n b.n with ⟨g1, e1, f1⟩ | ⟨g1, e1, f1⟩ | ⟨g1, e1, f1⟩ <;> rw [e, e1] <;> simp [orL] <;> omega
theorem ltN_swo : SWO ltN := by
  have V := ltV_swo
  constructor
  · intro a b h
    cases h2 : ltN b a
    · rfl
    · rw [ltN_iff] at h h2
      rcases h with h | ⟨h, hn⟩ <;> rcases h2 with h2 | ⟨h2, hm⟩
      · rw [V.asym h] at h2; cases h2
      · rw [h2] at h; cases h
      · rw [h] at h2; cases h2
      · omega
  · intro a b c h1 h2
    cases h3 : ltN a c
    · rfl
    · have h1' : ¬ ltN a b = true := by rw [h1]; decide
      have h2' : ¬ ltN b c = true := by rw [h2]; decide
      rw [ltN_iff] at h1' h2' h3
      have hab : ltV a.v b.v = false := by cases h : ltV a.v b.v; · rfl
                                           · exact absurd (.inl h) h1'
      have hbc : ltV b.v c.v = false := by cases h : ltV b.v c.v; · rfl
                                           · exact absurd (.inl h) h2'
      have hac := V.ntr hab hbc
      rcases h3 with h3 | ⟨h3, hn⟩
      · rw [hac] at h3; cases h3
      · have hba : ltV b.v a.v = false := V.ntr hbc h3
        have hcb : ltV c.v b.v = false := V.ntr h3 hab
        have : ¬ a.n < b.n := fun h => h1' (.inr ⟨hba, h⟩)
        have : ¬ b.n < c.n := fun h => h2' (.inr ⟨hcb, h⟩)
        omega
theorem ltN_tot {a b : Nb} (h : a.n ≠ b.n) : ltN a b = true ∨ ltN b a = true := by
  rw [ltN_iff, ltN_iff]
  cases h1 : ltV a.v b.v <;> cases h2 : ltV b.v a.v <;> simp <;> omega
theorem compN_gt (a b : Nb) : decide (compN a b > 0) = ltN b a := by
  unfold ltN compN
  rw [compV_swap a.v b.v]
  rcases compV_cases a.v b.v with e | e | e <;> rcases cmp3_cases a.n b.n with ⟨g1, e1, f1⟩ | ⟨g1, e1, f1⟩ | ⟨g1, e1, f1⟩ <;> rw [e, e1, f1] <;> simp [orL]
theorem or_four (w : World) (g : Nat) (a b c d : Int) (ty : TypeId) (h : w.heap[g]? = some (.cells #[.int .i64 a, .int .i64 b, .int .i64 c, .int .i64 d] ty (0, 0))) :
    Calls Try.prog 28 #[.slice (some ⟨g, 0, none⟩) 4 4] w fun e w' => e = .returned (.int .i64 (orL [a, b, c, d])) ∧ w' = w := by
  refine or_any w g 4 [a, b, c, d] (fun i x hx => ?_) rfl (by decide)
  rw [cell_of h]
  match i, hx with
  | 0, hx => simp at hx; subst hx; rfl
  | 1, hx => simp at hx; subst hx; rfl
  | 2, hx => simp at hx; subst hx; rfl
  | 3, hx => simp at hx; subst hx; rfl
  | n + 4, hx => simp at hx
theorem or_two (w : World) (g : Nat) (a b : Int) (ty : TypeId) (h : w.heap[g]? = some (.cells #[.int .i64 a, .int .i64 b] ty (0, 0))) :
    Calls Try.prog 28 #[.slice (some ⟨g, 0, none⟩) 2 2] w fun e w' => e = .returned (.int .i64 (orL [a, b])) ∧ w' = w := by
  refine or_any w g 2 [a, b] (fun i x hx => ?_) rfl (by decide)
  rw [cell_of h]
  match i, hx with
  | 0, hx => simp at hx; subst hx; rfl
  | 1, hx => simp at hx; subst hx; rfl
  | n + 2, hx => simp at hx
/-- A world whose cells a comparison reads. -/
structure Cm (w W : World) (h : Nat) (a b : Vl) : Prop where
  kept : Grw w W
  lt : h + 1 < W.heap.size
  c1 : W.cell? ⟨h, 1, none⟩ = some (.int .i64 a.tm)
  d1 : W.cell? ⟨h + 1, 1, none⟩ = some (.int .i64 b.tm)
  c0 : W.cell? ⟨h, 0, none⟩ = some (.int .i64 a.kd)
  d0 : W.cell? ⟨h + 1, 0, none⟩ = some (.int .i64 b.kd)
  c2 : W.cell? ⟨h, 2, none⟩ = some (.int .i64 a.tx)
  d2 : W.cell? ⟨h + 1, 2, none⟩ = some (.int .i64 b.tx)
  c3 : W.cell? ⟨h, 3, none⟩ = some (.int .i64 a.op)
  d3 : W.cell? ⟨h + 1, 3, none⟩ = some (.int .i64 b.op)
theorem cm_new (w : World) (a b : Vl) : Cm w ((w.alloc (vlO a)).alloc (vlO b)) w.heap.size a b := by
  have q1 := (heap_old _ (vlO b) (by rw [World.size_alloc]; exact Nat.lt_succ_self _)).trans (heap_new w (vlO a))
  have q2 := heap_new (w.alloc (vlO a)) (vlO b)
  rw [World.size_alloc] at q2
  exact ⟨((Grw.refl w).alloc _).alloc _, by simp only [World.size_alloc]; omega, (cell_of q1 1).trans rfl, (cell_of q2 1).trans rfl, (cell_of q1 0).trans rfl, (cell_of q2 0).trans rfl, (cell_of q1 2).trans rfl, (cell_of q2 2).trans rfl, (cell_of q1 3).trans rfl, (cell_of q2 3).trans rfl⟩
theorem Cm.on {w W W' : World} {h : Nat} {a b : Vl} (m : Cm w W h a b) (k : Grw W W') : Cm w W' h a b := by
  have h0 : h < W.heap.size := by have := m.lt; omega
  have kk := k.kept
  have g : ∀ c, W'.cell? ⟨h, c, none⟩ = W.cell? ⟨h, c, none⟩ := fun c => kk.cell (p := ⟨h, c, none⟩) h0 (fun e => e)
  have g' : ∀ c, W'.cell? ⟨h + 1, c, none⟩ = W.cell? ⟨h + 1, c, none⟩ := fun c => kk.cell (p := ⟨h + 1, c, none⟩) m.lt (fun e => e)
  exact ⟨m.kept.trans k, Nat.lt_of_lt_of_le m.lt kk.size, (g _).trans m.c1, (g' _).trans m.d1, (g _).trans m.c0, (g' _).trans m.d0, (g _).trans m.c2, (g' _).trans m.d2, (g _).trans m.c3, (g' _).trans m.d3⟩
set_option maxRecDepth 100000 in
set_option maxHeartbeats 1600000 in
theorem compare18 (a b : Vl) (w : World) : Calls Try.prog 17 #[vlV a, vlV b] w fun e w' => e = .returned (.int .i64 (compV a b)) ∧ Grw w w' := by
  have HC : Hid (∀ x y W, _) := cmpC_any
  have HO : Hid (∀ (W : World) (g : Nat) (a b c d : Int) (ty : TypeId), W.heap[g]? = _ → _) := or_four
  have HM : Hid (Cm w _ _ a b) := cm_new w a b
  unfold compV
  obtain ⟨akd, atm, atx, aop, awi, akey, awa, aex, ago, aob, afr, att⟩ := a
  obtain ⟨bkd, btm, btx, bop, bwi, bkey, bwa, bex, bgo, bob, bfr, btt⟩ := b
  simp only at HM ⊢
  go_enter Try.func17, Try.ntmps17
  go_upto_region 1 with fail
  generalize (w.alloc _).alloc _ = W at HM ⊢
  generalize w.heap.size = h at HM ⊢
  have HBX : Hid (∀ w3, Grw W w3 → Grw w w3 ∧ w3.cell? ⟨h, 1, none⟩ = some (.int .i64 atm) ∧ w3.cell? ⟨h + 1, 1, none⟩ = some (.int .i64 btm) ∧ w3.cell? ⟨h, 0, none⟩ = some (.int .i64 akd) ∧ w3.cell? ⟨h + 1, 0, none⟩ = some (.int .i64 bkd) ∧ w3.cell? ⟨h, 2, none⟩ = some (.int .i64 atx) ∧ w3.cell? ⟨h + 1, 2, none⟩ = some (.int .i64 btx) ∧ w3.cell? ⟨h, 3, none⟩ = some (.int .i64 aop) ∧ w3.cell? ⟨h + 1, 3, none⟩ = some (.int .i64 bop)) := fun w3 k3 => by
    obtain ⟨k, hlt, c1, d1, c0, d0, c2, d2, c3, d3⟩ := HM.out.on k3
    exact ⟨k, c1, d1, c0, d0, c2, d2, c3, d3⟩
  obtain ⟨k, hlt, c1, d1, c0, d0, c2, d2, c3, d3⟩ := HM.out
  have K : Hid (Grw w W) := k
  clear k HM
  go_region_held3 (fun w' => Grw w w' ∧ w'.cell? ⟨h, 1, none⟩ = some (.int .i64 atm) ∧ w'.cell? ⟨h + 1, 1, none⟩ = some (.int .i64 btm) ∧ w'.cell? ⟨h, 0, none⟩ = some (.int .i64 akd) ∧ w'.cell? ⟨h + 1, 0, none⟩ = some (.int .i64 bkd) ∧ w'.cell? ⟨h, 2, none⟩ = some (.int .i64 atx) ∧ w'.cell? ⟨h + 1, 2, none⟩ = some (.int .i64 btx) ∧ w'.cell? ⟨h, 3, none⟩ = some (.int .i64 aop) ∧ w'.cell? ⟨h + 1, 3, none⟩ = some (.int .i64 bop))
    (exact HBX.out _ (by (repeat (first | exact Grw.refl _ | apply Grw.alloc | apply Grw.drew | apply Grw.drewN)); done))
    (first
    | (go_at_call 29; refine Calls.mono (HC.out _ _ _) ?_; rintro r w1 ⟨rfl, rfl⟩)
    | (go_at_call 28; refine Calls.mono (HO.out _ _ _ _ _ _ 3 (by exact heap_new _ _)) ?_; rintro r w1 ⟨rfl, rfl⟩))
  all_goals (go_wp2_with fail)
  all_goals (go_ret; exact ⟨rfl, Grw.trans K.out (by (repeat (first | exact Grw.refl _ | apply Grw.alloc | apply Grw.drew | apply Grw.drewN)); done)⟩)
theorem nb_cells {w : World} {g : Nat} {x : Nb} (h : w.heap[g]? = some (nbO x)) : w.cell? ⟨g, 0, none⟩ = some (.int .i64 x.v.kd) ∧ w.cell? ⟨g, 1, none⟩ = some (.int .i64 x.v.tm) ∧ w.cell? ⟨g, 2, none⟩ = some (.int .i64 x.v.tx) ∧ w.cell? ⟨g, 3, none⟩ = some (.int .i64 x.v.op) ∧ w.cell? ⟨g, 4, none⟩ = some (.int .i64 x.v.wi) ∧ w.cell? ⟨g, 5, none⟩ = some (.string x.v.key) ∧ w.cell? ⟨g, 6, none⟩ = some (.bool x.v.wa) ∧ w.cell? ⟨g, 7, none⟩ = some (.string x.v.ex) ∧ w.cell? ⟨g, 8, none⟩ = some (.bool x.v.go) ∧ w.cell? ⟨g, 9, none⟩ = some (.string x.v.ob) ∧ w.cell? ⟨g, 10, none⟩ = some (.int .i64 x.v.fr) ∧ w.cell? ⟨g, 11, none⟩ = some (.int .i64 x.v.tt) ∧ w.cell? ⟨g, 12, none⟩ = some (.int .i64 x.n) :=
  ⟨(cell_of h 0).trans rfl, (cell_of h 1).trans rfl, (cell_of h 2).trans rfl, (cell_of h 3).trans rfl, (cell_of h 4).trans rfl, (cell_of h 5).trans rfl, (cell_of h 6).trans rfl, (cell_of h 7).trans rfl, (cell_of h 8).trans rfl, (cell_of h 9).trans rfl, (cell_of h 10).trans rfl, (cell_of h 11).trans rfl, (cell_of h 12).trans rfl⟩
end Go.Proofs.Ytnfkjblhnpnaeaa
