/- What is proved: what 'right' and 'compare' of versions answer, for every version; no condition. -/
import Derived.Test.YtmghmacgljihcaaCVer
import Derived.Deep.RegionHeld3
import Derived.Deep.Cut
namespace Go.Proofs.Ytmghmacgljihcaa
open Go.RowKit

/-- How two numbers stand to one another. -/
def cmp3 (a b : Int) : Int := if a < b then -1 else if b < a then 1 else 0
theorem cmp3_lt {a b : Int} (h : a < b) : cmp3 a b = -1 := if_pos h
theorem cmp3_gt {a b : Int} (h : b < a) : cmp3 a b = 1 := by unfold cmp3; rw [if_neg (by omega), if_pos h]
theorem cmp3_eq (a : Int) : cmp3 a a = 0 := by unfold cmp3; rw [if_neg (by omega), if_neg (by omega)]
theorem cmp3_cases (a b : Int) : (a < b ∧ cmp3 a b = -1 ∧ cmp3 b a = 1) ∨ (b < a ∧ cmp3 a b = 1 ∧ cmp3 b a = -1) ∨ (a = b ∧ cmp3 a b = 0 ∧ cmp3 b a = 0) := by
  rcases Int.lt_trichotomy a b with h | rfl | h
  · exact .inl ⟨h, cmp3_lt h, cmp3_gt h⟩
  · exact .inr (.inr ⟨rfl, cmp3_eq _, cmp3_eq _⟩)
  · exact .inr (.inl ⟨h, cmp3_gt h, cmp3_lt h⟩)
set_option maxRecDepth 100000 in
theorem isnan_any (x : Int) (w : World) : Calls Try.prog 61 #[.int .i64 x] w fun e w' => e = .returned (.bool false) ∧ w' = w := by
  have h : (x != x) = false := by simp
  go_enter Try.func61, Try.ntmps61
  go_wp2_with fail
  go_ret
  exact ⟨rfl, rfl⟩
set_option maxRecDepth 100000 in
set_option maxHeartbeats 800000 in
theorem cmpC_any (x y : Int) (w : World) : Calls Try.prog 60 #[.int .i64 x, .int .i64 y] w fun e w' => e = .returned (.int .i64 (cmp3 x y)) ∧ w' = w := by
  have HX : Hid (∀ W, _) := fun W => isnan_any x W
  have HY : Hid (∀ W, _) := fun W => isnan_any y W
  rcases cmp3_cases x y with ⟨h, e, -⟩ | ⟨h, e, -⟩ | ⟨rfl, e, -⟩
  · rw [e]
    have d : decide (x < y) = true := decide_eq_true h
    clear e
    go_enter Try.func60, Try.ntmps60
    go_wp2_with fail
    refine Calls.mono (HX.out _) ?_
    rintro r w1 ⟨rfl, rfl⟩
    go_wp2_with fail
    refine Calls.mono (HY.out _) ?_
    rintro r w1 ⟨rfl, rfl⟩
    go_wp2_with fail
    go_ret
    exact ⟨rfl, rfl⟩
  · rw [e]
    have d : decide (x < y) = false := decide_eq_false (by omega)
    have d2 : decide (y < x) = true := decide_eq_true h
    have h2 : ¬ x < y := by omega
    clear e
    go_enter Try.func60, Try.ntmps60
    go_wp2_with fail
    refine Calls.mono (HX.out _) ?_
    rintro r w1 ⟨rfl, rfl⟩
    go_wp2_with fail
    refine Calls.mono (HY.out _) ?_
    rintro r w1 ⟨rfl, rfl⟩
    go_wp2_with fail
    go_ret
    exact ⟨rfl, rfl⟩
  · rw [e]
    have d : decide (x < x) = false := decide_eq_false (by omega)
    clear e
    go_enter Try.func60, Try.ntmps60
    go_wp2_with fail
    refine Calls.mono (HX.out _) ?_
    rintro r w1 ⟨rfl, rfl⟩
    go_wp2_with fail
    refine Calls.mono (HY.out _) ?_
    rintro r w1 ⟨rfl, rfl⟩
    go_wp2_with fail
    go_ret
    exact ⟨rfl, rfl⟩

/-- The first number that is not 0. -/
def orL : List Int → Int
  | [] => 0
  | x :: r => if x ≠ 0 then x else orL r
set_option maxRecDepth 100000 in
set_option maxHeartbeats 1600000 in
theorem or_any (w : World) (g n : Nat) (xs : List Int) (h : ∀ i x, xs[i]? = some x → w.cell? ⟨g, i, none⟩ = some (.int .i64 x)) (hn : n = xs.length) (hs : n ≤ 3) :
    Calls Try.prog 59 #[.slice (some ⟨g, 0, none⟩) n n] w fun e w' => e = .returned (.int .i64 (orL xs)) ∧ w' = w := by
  have EN : Hid _ := hn
  have HC : Hid _ := h
  clear h hn
  go_enter Try.func59, Try.ntmps59
  go_wp2_with fail
  go_loop [8] (fun i => ∃ j : Nat, j ≤ n ∧ i = .int .i64 j ∧ orL xs = orL (xs.drop j)) (fun i => n - (intOf i).toNat)
  case atStart => exact ⟨0, Nat.zero_le _, rfl, rfl⟩
  case round =>
    obtain ⟨j, hj, rfl, hr⟩ := hrel
    by_cases hlt : j < n
    · have c1 : decide ((j : Int) < (n : Int)) = true := by simp only [decide_eq_true_eq]; omega
      have hlt2 : (j : Int) < (n : Int) := by omega
      obtain ⟨x, hx⟩ : ∃ x, xs[j]? = some x := ⟨_, List.getElem?_eq_getElem (by rw [← EN.out]; exact hlt)⟩
      have hc := HC.out j x hx
      have hd : xs.drop j = x :: xs.drop (j + 1) := by
        obtain ⟨hh, rfl⟩ := List.getElem?_eq_some_iff.1 hx
        exact List.drop_eq_getElem_cons hh
      rw [hd] at hr
      by_cases hz : x = 0
      · subst hz
        have HR : Hid (orL xs = orL (xs.drop (j + 1))) := hr
        clear hr hd hx
        go_wp2_with fail
        go_round
        case rel => exact ⟨j + 1, hlt, by rw [Int.natCast_add]; rfl, HR.out⟩
        case measure => simp only [intOf]; omega
      · have hz' : (x != 0) = true := by simpa using hz
        have HR : Hid (orL xs = x) := hr.trans (if_pos hz)
        clear hr hd hx hz
        go_wp2_with fail
        go_ret
        exact ⟨congrArg (fun z => Ending.returned (Value.int IntKind.i64 z)) HR.out.symm, rfl⟩
    · have ej : j = n := by omega
      subst ej
      have c1 : decide ((j : Int) < (j : Int)) = false := by simp
      have HR : Hid (orL xs = 0) := hr.trans (by rw [List.drop_eq_nil_of_le (by rw [← EN.out]; exact Nat.le_refl _)]; rfl)
      clear hr
      go_wp2_with fail
      go_ret
      exact ⟨congrArg (fun z => Ending.returned (Value.int IntKind.i64 z)) HR.out.symm, rfl⟩
theorem or_two (w : World) (g : Nat) (a b : Int) (ty : TypeId) (h : w.heap[g]? = some (.cells #[.int .i64 a, .int .i64 b] ty (0, 0))) :
    Calls Try.prog 59 #[.slice (some ⟨g, 0, none⟩) 2 2] w fun e w' => e = .returned (.int .i64 (orL [a, b])) ∧ w' = w := by
  refine or_any w g 2 [a, b] (fun i x hx => ?_) rfl (by decide)
  rw [cell_of h]
  match i, hx with
  | 0, hx => simp at hx; subst hx; rfl
  | 1, hx => simp at hx; subst hx; rfl
  | n + 2, hx => simp at hx
/-- How two versions stand to one another. -/
def cmpV (a b : Vn) : Int := orL [cmp3 a.c b.c, cmp3 a.w b.w]
theorem cmpV_le (a b : Vn) : decide (cmpV a b ≤ 0) = !gt a b := by
  unfold cmpV orL gt
  rcases cmp3_cases a.c b.c with ⟨h, e, -⟩ | ⟨h, e, -⟩ | ⟨h, e, -⟩ <;> rw [e]
  · simp; omega
  · simp; omega
  · rcases cmp3_cases a.w b.w with ⟨h', e', -⟩ | ⟨h', e', -⟩ | ⟨h', e', -⟩ <;> simp [orL, e'] <;> omega
structure Cm (w W : World) (h : Nat) (a b : Vn) : Prop where
  kept : Kept w W
  lt : h + 1 < W.heap.size
  c1 : W.cell? ⟨h, 0, none⟩ = some (.int .i64 a.c)
  c2 : W.cell? ⟨h + 1, 0, none⟩ = some (.int .i64 b.c)
  c3 : W.cell? ⟨h, 1, none⟩ = some (.int .i64 a.w)
  c4 : W.cell? ⟨h + 1, 1, none⟩ = some (.int .i64 b.w)
theorem cm_new (w : World) (a b : Vn) : Cm w ((w.alloc (.cells #[.int .i64 a.c, .int .i64 a.w, .bool a.f, .string a.v] 75 (0, 0))).alloc (.cells #[.int .i64 b.c, .int .i64 b.w, .bool b.f, .string b.v] 75 (0, 0))) w.heap.size a b := by
  have q1 := (heap_old _ (.cells #[.int .i64 b.c, .int .i64 b.w, .bool b.f, .string b.v] 75 (0, 0)) (by rw [World.size_alloc]; exact Nat.lt_succ_self _)).trans (heap_new w (.cells #[.int .i64 a.c, .int .i64 a.w, .bool a.f, .string a.v] 75 (0, 0)))
  have q2 := heap_new (w.alloc (.cells #[.int .i64 a.c, .int .i64 a.w, .bool a.f, .string a.v] 75 (0, 0))) (.cells #[.int .i64 b.c, .int .i64 b.w, .bool b.f, .string b.v] 75 (0, 0))
  rw [World.size_alloc] at q2
  exact ⟨((Same.refl _ w).alloc _).alloc _, by simp only [World.size_alloc]; omega, (cell_of q1 0).trans rfl, (cell_of q2 0).trans rfl, (cell_of q1 1).trans rfl, (cell_of q2 1).trans rfl⟩
theorem Cm.cells {w W : World} {h : Nat} {a b : Vn} (m : Cm w W h a b) (w3 : World) (k : Kept W w3) :
    Kept W w3 ∧ w3.cell? ⟨h, 0, none⟩ = some (.int .i64 a.c) ∧ w3.cell? ⟨h + 1, 0, none⟩ = some (.int .i64 b.c) ∧ w3.cell? ⟨h, 1, none⟩ = some (.int .i64 a.w) ∧ w3.cell? ⟨h + 1, 1, none⟩ = some (.int .i64 b.w) := by
  have h0 : h < W.heap.size := by have := m.lt; omega
  exact ⟨k, (k.cell (p := ⟨h, 0, none⟩) h0 (fun e => e)).trans m.c1, (k.cell (p := ⟨h + 1, 0, none⟩) m.lt (fun e => e)).trans m.c2, (k.cell (p := ⟨h, 1, none⟩) h0 (fun e => e)).trans m.c3, (k.cell (p := ⟨h + 1, 1, none⟩) m.lt (fun e => e)).trans m.c4⟩
set_option maxRecDepth 100000 in
set_option maxHeartbeats 800000 in
theorem compare_any (a b : Vn) (w : World) : Calls Try.prog 58 #[verV a, verV b] w fun e w' => e = .returned (.int .i64 (cmpV a b)) ∧ Kept w w' := by
  have HC : Hid (∀ x y W, _) := cmpC_any
  have HO : Hid (∀ (W : World) (g : Nat) (a b : Int) (ty : TypeId), W.heap[g]? = _ → _) := or_two
  have HM : Hid _ := cm_new w a b
  obtain ⟨ac, aw, af, av⟩ := a
  obtain ⟨bc, bw, bf, bv⟩ := b
  unfold verV cmpV
  simp only at HM ⊢
  go_enter Try.func58, Try.ntmps58
  go_upto_region 1 with fail
  generalize (w.alloc (.cells #[.int .i64 ac, .int .i64 aw, .bool af, .string av] 75 (0, 0))).alloc (.cells #[.int .i64 bc, .int .i64 bw, .bool bf, .string bv] 75 (0, 0)) = W at HM ⊢
  generalize w.heap.size = h at HM ⊢
  have HBX : Hid (∀ w3, Kept W w3 → _) := fun w3 k3 => HM.out.cells w3 k3
  obtain ⟨k, hlt, c1, c2, c3, c4⟩ := HM.out
  have K : Hid _ := k
  clear k HM
  go_region_held3 (fun w' => Kept W w' ∧ w'.cell? ⟨h, 0, none⟩ = some (.int .i64 ac) ∧ w'.cell? ⟨h + 1, 0, none⟩ = some (.int .i64 bc) ∧ w'.cell? ⟨h, 1, none⟩ = some (.int .i64 aw) ∧ w'.cell? ⟨h + 1, 1, none⟩ = some (.int .i64 bw))
    (exact HBX.out _ (by (repeat (first | exact Same.refl _ _ | apply Same.alloc | apply Same.drew | apply Same.drewN)); done))
    (first
    | (go_at_call 60; refine Calls.mono (HC.out _ _ _) ?_; rintro r w1 ⟨rfl, rfl⟩)
    | (go_at_call 59; refine Calls.mono (HO.out _ _ _ _ 3 (by exact heap_new _ _)) ?_; rintro r w1 ⟨rfl, rfl⟩))
  all_goals (go_wp2_with fail)
  all_goals (go_ret; exact ⟨rfl, Same.trans' K.out (by (repeat (first | exact Same.refl _ _ | apply Same.alloc | apply Same.drew | apply Same.drewN)); done)⟩)
theorem empty_iff (v : ByteArray) : v.toList.isEmpty = true ↔ v.size = 0 := by
  rw [ByteArray.toList_eq]
  obtain ⟨⟨l⟩⟩ := v
  cases l <;> simp [ByteArray.size]
set_option maxRecDepth 100000 in
set_option maxHeartbeats 1600000 in
theorem right_any (x : Vn) (w : World) : Calls Try.prog 57 #[verV x] w fun e w' => e = .returned (.bool (rightV x)) ∧ Kept w w' := by
  have HR : Hid (∀ b : Bool, (b = true ↔ _) → rightV x = b) := fun b hb => by
    unfold rightV
    cases b
    · exact decide_eq_false fun h => by have := hb.2 h; cases this
    · exact decide_eq_true (hb.1 rfl)
  obtain ⟨c, ww, f, v⟩ := x
  unfold verV
  simp only at HR ⊢
  generalize rightV _ = r at HR ⊢
  go_enter Try.func57, Try.ntmps57
  go_wp2_with fail
  all_goals (go_ret; refine ⟨?_, (Same.refl _ w).alloc _⟩; refine congrArg (fun z => Ending.returned (Value.bool z)) (HR.out _ ?_).symm)
  all_goals (try rw [empty_iff])
  all_goals (constructor <;> intro h)
  all_goals (first
    | (cases h; done)
    | (refine ⟨by omega, by omega, by omega, by omega, by omega, ?_⟩; first | exact .inl (by assumption) | exact .inr h)
    | (rcases h with ⟨_, _, _, _, _, h | h⟩ <;> first | exact h | contradiction | omega)
    | trivial)
end Go.Proofs.Ytmghmacgljihcaa
