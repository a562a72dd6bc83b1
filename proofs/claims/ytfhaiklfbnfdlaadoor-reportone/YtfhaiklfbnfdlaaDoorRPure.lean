/- What is proved: plain facts on reading items one behind the other: what is read is local, what is cut ends too soon, where a fault lies; no condition. -/
import Derived.Test.YtfhaiklfbnfdlaaDoorWForm
namespace Go.Proofs.YtfhaiklfbnfdlaaDoor
open Go.RowKit

/-- An item: a number up to a bound, a tag, a text. -/
inductive Item where
  | nm (most : Nat)
  | tg
  | tx (lo hi : Nat)
/-- What reading an item off the beginning of a list gives: a number, a text and how many bytes; or a fault. -/
def rd : Item → List Int → Except Int ((Nat × List Int) × Nat)
  | .nm most, r => if (num 8 r).2.2 ≠ 0 then .error (num 8 r).2.2 else if most < (num 8 r).1 then .error 53 else .ok (((num 8 r).1, []), (num 8 r).2.1)
  | .tg, r => match r with
    | [] => .error 51
    | x :: _ => if 1 ≤ x ∧ x ≤ 4 then .ok ((x.toNat, []), 1) else .error 60
  | .tx lo hi, r => if (num 8 r).2.2 ≠ 0 then .error (num 8 r).2.2 else if (num 8 r).1 < lo ∨ hi < (num 8 r).1 then .error 53
    else if r.length < (num 8 r).2.1 + (num 8 r).1 then .error 51 else .ok (((num 8 r).1, (r.drop (num 8 r).2.1).take (num 8 r).1), (num 8 r).2.1 + (num 8 r).1)

theorem num_local {r : List Int} (hr : Byts r) (h : (num 8 r).2.2 = 0) {n : Nat} (hn : (num 8 r).2.1 ≤ n) (s : List Int) : num 8 (r.take n ++ s) = num 8 r := by
  obtain ⟨o1, o2, o3, o4, o5, -⟩ := num_one (by decide) hr h
  have e : r.take n ++ s = form (num 8 r).1 ++ ((r.drop (num 8 r).2.1).take (n - (num 8 r).2.1) ++ s) := by
    rw [o1, ← List.append_assoc]
    congr 1
    conv => lhs; rw [show n = (num 8 r).2.1 + (n - (num 8 r).2.1) by omega]
    rw [List.take_add]
  rw [e, num_form _ (by decide) o5 (.inl rfl)]
  have hl : (form (num 8 r).1).length = (num 8 r).2.1 := by rw [o1, List.length_take]; omega
  rw [hl]
  generalize num 8 r = q at h ⊢
  obtain ⟨a, b, c⟩ := q
  simp only at h
  rw [h]
theorem num_short {r : List Int} (hr : Byts r) (h : (num 8 r).2.2 = 0) {c : Nat} (hc : c < (num 8 r).2.1) : num 8 (r.take c) = (0, 0, 51) := by
  obtain ⟨o1, o2, o3, o4, o5, -⟩ := num_one (by decide) hr h
  have e : r.take c = (form (num 8 r).1).take c := by rw [o1, List.take_take, Nat.min_eq_left (by omega)]
  rw [e]
  exact num_cut (by decide) o5 (by rw [o1, List.length_take]; omega)
theorem num_errs {k : Nat} {r : List Int} (h : (num k r).2.2 ≠ 0) : (num k r).2.2 = 51 ∨ (num k r).2.2 = 52 := by
  induction k generalizing r with
  | zero => exact .inr rfl
  | succ k ih =>
    cases r with
    | nil => exact .inl rfl
    | cons x r =>
      simp only [num] at h ⊢
      by_cases h1 : 128 ≤ x
      · rw [if_pos h1] at h ⊢
        by_cases h2 : (num k r).2.2 = 0
        · rw [if_pos h2] at h
          exact absurd rfl h
        · rw [if_neg h2]
          exact ih h2
      · rw [if_neg h1] at h ⊢
        by_cases h2 : x = 0 ∧ k ≠ 7
        · rw [if_pos h2]
          exact .inr rfl
        · rw [if_neg h2] at h
          exact absurd rfl h

/-- What is read is local, and cut anywhere it ends too soon. -/
theorem rd_ok {I : Item} {r : List Int} {x : Nat × List Int} {n : Nat} (hr : Byts r) (h : rd I r = .ok (x, n)) :
    1 ≤ n ∧ n ≤ r.length ∧ (∀ s, rd I (r.take n ++ s) = .ok (x, n)) ∧ ∀ c, c < n → rd I (r.take c) = .error 51 := by
  cases I with
  | nm most =>
    simp only [rd] at h ⊢
    by_cases h0 : (num 8 r).2.2 = 0
    · rw [if_neg (by simpa using h0)] at h
      obtain ⟨-, o2, o3, -, -, -⟩ := num_one (by decide) hr h0
      by_cases h1 : most < (num 8 r).1
      · rw [if_pos h1] at h
        cases h
      · rw [if_neg h1] at h
        simp only [Except.ok.injEq, Prod.mk.injEq] at h
        obtain ⟨rfl, rfl⟩ := h
        refine ⟨o3, o2, fun s => ?_, fun c hc => ?_⟩
        · rw [num_local hr h0 (Nat.le_refl _), if_neg (by simpa using h0), if_neg h1]
        · rw [num_short hr h0 hc, if_pos (by simp)]
    · rw [if_pos h0] at h
      cases h
  | tg =>
    cases r with
    | nil => cases h
    | cons y r =>
      simp only [rd] at h
      by_cases h1 : 1 ≤ y ∧ y ≤ 4
      · rw [if_pos h1] at h
        simp only [Except.ok.injEq, Prod.mk.injEq] at h
        obtain ⟨rfl, rfl⟩ := h
        refine ⟨Nat.le_refl _, by simp, fun s => ?_, fun c hc => ?_⟩
        · simp only [List.take_succ_cons, List.take_zero, List.cons_append, rd]
          rw [if_pos h1]
        · obtain rfl : c = 0 := by omega
          rfl
      · rw [if_neg h1] at h
        cases h
  | tx lo hi =>
    simp only [rd] at h ⊢
    by_cases h0 : (num 8 r).2.2 = 0
    · rw [if_neg (by simpa using h0)] at h
      obtain ⟨-, o2, o3, -, -, -⟩ := num_one (by decide) hr h0
      by_cases h1 : (num 8 r).1 < lo ∨ hi < (num 8 r).1
      · rw [if_pos h1] at h
        cases h
      · rw [if_neg h1] at h
        by_cases h2 : r.length < (num 8 r).2.1 + (num 8 r).1
        · rw [if_pos h2] at h
          cases h
        · rw [if_neg h2] at h
          simp only [Except.ok.injEq, Prod.mk.injEq] at h
          obtain ⟨rfl, rfl⟩ := h
          refine ⟨by omega, by omega, fun s => ?_, fun c hc => ?_⟩
          · rw [num_local hr h0 (Nat.le_add_right _ _), if_neg (by simpa using h0), if_neg h1, if_neg (by simp; omega)]
            congr 3
            rw [List.drop_append_of_le_length (by simp; omega), List.drop_take, List.take_append_of_le_length (by simp; omega), Nat.add_sub_cancel_left, List.take_take, Nat.min_self]
          · by_cases hcs : c < (num 8 r).2.1
            · rw [num_short hr h0 hcs, if_pos (by simp)]
            · have := num_local hr h0 (n := c) (by omega) []
              rw [List.append_nil] at this
              rw [this, if_neg (by simpa using h0), if_neg h1, if_pos (by simp; omega)]
    · rw [if_pos h0] at h
      cases h
/-- What the faults are, and what a wrong tag hangs on. -/
theorem rd_err {I : Item} {r : List Int} {e : Int} (h : rd I r = .error e) : (e = 51 ∨ e = 52 ∨ e = 53 ∨ e = 60) ∧ (e = 60 → 1 ≤ r.length ∧ ∀ s, rd I (r.take 1 ++ s) = .error 60) := by
  cases I with
  | nm most =>
    simp only [rd] at h
    by_cases h0 : (num 8 r).2.2 = 0
    · rw [if_neg (by simpa using h0)] at h
      by_cases h1 : most < (num 8 r).1
      · rw [if_pos h1] at h
        cases h
        exact ⟨by simp, fun h => by simp at h⟩
      · rw [if_neg h1] at h
        cases h
    · rw [if_pos h0] at h
      cases h
      rcases num_errs h0 with q | q <;> rw [q] <;> exact ⟨by simp, fun h => by simp at h⟩
  | tg =>
    cases r with
    | nil =>
      cases h
      exact ⟨by simp, fun h => by simp at h⟩
    | cons y r =>
      simp only [rd] at h
      by_cases h1 : 1 ≤ y ∧ y ≤ 4
      · rw [if_pos h1] at h
        cases h
      · rw [if_neg h1] at h
        cases h
        refine ⟨by simp, fun _ => ⟨by simp, fun s => ?_⟩⟩
        simp only [List.take_succ_cons, List.take_zero, List.cons_append, rd]
        rw [if_neg h1]
  | tx lo hi =>
    simp only [rd] at h
    by_cases h0 : (num 8 r).2.2 = 0
    · rw [if_neg (by simpa using h0)] at h
      by_cases h1 : (num 8 r).1 < lo ∨ hi < (num 8 r).1
      · rw [if_pos h1] at h
        cases h
        exact ⟨by simp, fun h => by simp at h⟩
      · rw [if_neg h1] at h
        by_cases h2 : r.length < (num 8 r).2.1 + (num 8 r).1
        · rw [if_pos h2] at h
          cases h
          exact ⟨by simp, fun h => by simp at h⟩
        · rw [if_neg h2] at h
          cases h
    · rw [if_pos h0] at h
      cases h
      rcases num_errs h0 with q | q <;> rw [q] <;> exact ⟨by simp, fun h => by simp at h⟩
theorem rd_nil (I : Item) : rd I [] = .error 51 := by
  cases I <;> rfl

/-- Items read one behind the other, each by what was read ahead of it. -/
inductive Pg (α : Type) where
  | ret (a : α)
  | ask (I : Item) (k : Nat × List Int → Pg α)
/-- How they are read off a list, from the place p on. -/
def run {α : Type} : Pg α → List Int → Nat → Except (Nat × Int) (α × Nat)
  | .ret a, _, p => .ok (a, p)
  | .ask I k, r, p => match rd I r with
    | .error e => .error (p, e)
    | .ok (x, n) => run (k x) (r.drop n) (p + n)
theorem run_ask_ok {α : Type} {I : Item} {k : Nat × List Int → Pg α} {r : List Int} {p n : Nat} {x : Nat × List Int} (h : rd I r = .ok (x, n)) : run (.ask I k) r p = run (k x) (r.drop n) (p + n) := by simp only [run, h]
theorem run_ask_err {α : Type} {I : Item} {k : Nat × List Int → Pg α} {r : List Int} {p : Nat} {e : Int} (h : rd I r = .error e) : run (.ask I k) r p = .error (p, e) := by simp only [run, h]
def Pg.bind {α β : Type} : Pg α → (α → Pg β) → Pg β
  | .ret a, f => f a
  | .ask I k, f => .ask I fun x => (k x).bind f
theorem run_bind {α β : Type} (g : Pg α) (f : α → Pg β) (r : List Int) (p : Nat) : run (g.bind f) r p = (match run g r p with | .error e => .error e | .ok (a, q) => run (f a) (r.drop (q - p)) q) := by
  induction g generalizing r p with
  | ret a => simp [Pg.bind, run]
  | ask I k ih =>
    simp only [Pg.bind]
    cases hI : rd I r with
    | error e => rw [run_ask_err hI, run_ask_err hI]
    | ok xn =>
      obtain ⟨x, n⟩ := xn
      rw [run_ask_ok hI, run_ask_ok hI, ih]
      cases hk : run (k x) (r.drop n) (p + n) with
      | error e => rfl
      | ok aq =>
        obtain ⟨a, q⟩ := aq
        have hle : ∀ (g : Pg α) (r : List Int) (p : Nat) (a : α) (q : Nat), run g r p = .ok (a, q) → p ≤ q := by
          intro g
          induction g with
          | ret a => intro r p a q h; simp [run] at h; omega
          | ask I k ih2 =>
            intro r p a q h
            cases hI2 : rd I r with
            | error e => rw [run_ask_err hI2] at h; cases h
            | ok xn =>
              obtain ⟨x, n⟩ := xn
              rw [run_ask_ok hI2] at h
              have := ih2 _ _ _ _ _ h
              omega
        have := hle _ _ _ _ _ hk
        simp only [List.drop_drop]
        rw [show n + (q - (p + n)) = q - p by omega]

theorem run_ok {α : Type} {g : Pg α} : ∀ {r : List Int} {p : Nat} {a : α} {q : Nat}, Byts r → run g r p = .ok (a, q) →
    p ≤ q ∧ q ≤ p + r.length ∧ (∀ s, run g (r.take (q - p) ++ s) p = .ok (a, q)) ∧ ∀ c, c < q - p → ∃ z, z ≤ p + c ∧ run g (r.take c) p = .error (z, 51) := by
  induction g with
  | ret a =>
    intro r p a' q hr h
    simp only [run, Except.ok.injEq, Prod.mk.injEq] at h
    obtain ⟨rfl, rfl⟩ := h
    exact ⟨Nat.le_refl _, by omega, fun s => rfl, fun c hc => by omega⟩
  | ask I k ih =>
    intro r p a q hr h
    cases hI : rd I r with
    | error e => rw [run_ask_err hI] at h; cases h
    | ok xn =>
      obtain ⟨x, n⟩ := xn
      rw [run_ask_ok hI] at h
      obtain ⟨n1, n2, n3, n4⟩ := rd_ok hr hI
      obtain ⟨j1, j2, j3, j4⟩ := ih x (hr.drop n) h
      rw [List.length_drop] at j2
      refine ⟨by omega, by omega, fun s => ?_, fun c hc => ?_⟩
      · have e : r.take (q - p) ++ s = r.take n ++ ((r.drop n).take (q - (p + n)) ++ s) := by
          rw [← List.append_assoc]
          congr 1
          rw [show q - p = n + (q - (p + n)) by omega, List.take_add]
        have hl : (r.take n).length = n := by simp; omega
        rw [e, run_ask_ok (n3 _), List.drop_append_of_le_length (by omega), List.drop_eq_nil_of_le (by omega), List.nil_append]
        exact j3 s
      · by_cases hcn : c < n
        · exact ⟨p, by omega, run_ask_err (n4 c hcn)⟩
        · obtain ⟨z, z1, z2⟩ := j4 (c - n) (by omega)
          refine ⟨z, by omega, ?_⟩
          have e : r.take c = r.take n ++ (r.drop n).take (c - n) := by
            rw [show c = n + (c - n) by omega, List.take_add, Nat.add_sub_cancel_left]
          have hl : (r.take n).length = n := by simp; omega
          rw [e, run_ask_ok (n3 _), List.drop_append_of_le_length (by omega), List.drop_eq_nil_of_le (by omega), List.nil_append]
          exact z2
theorem run_err {α : Type} {g : Pg α} : ∀ {r : List Int} {p : Nat} {q : Nat} {e : Int}, Byts r → run g r p = .error (q, e) →
    p ≤ q ∧ q ≤ p + r.length ∧ (e = 51 ∨ e = 52 ∨ e = 53 ∨ e = 60) ∧ (e = 51 → run g (r.take (q - p)) p = .error (q, 51)) ∧ (e = 60 → q < p + r.length ∧ ∀ s, run g (r.take (q - p + 1) ++ s) p = .error (q, 60)) := by
  induction g with
  | ret a => intro r p q e hr h; cases h
  | ask I k ih =>
    intro r p q e hr h
    cases hI : rd I r with
    | error e' =>
      rw [run_ask_err hI] at h
      simp only [Except.error.injEq, Prod.mk.injEq] at h
      obtain ⟨rfl, rfl⟩ := h
      obtain ⟨k1, k2⟩ := rd_err hI
      refine ⟨Nat.le_refl _, by omega, k1, fun _ => ?_, fun h6 => ?_⟩
      · rw [Nat.sub_self, List.take_zero]
        exact run_ask_err (rd_nil I)
      · obtain ⟨m1, m2⟩ := k2 h6
        refine ⟨by omega, fun s => ?_⟩
        rw [Nat.sub_self, Nat.zero_add]
        exact run_ask_err (m2 s)
    | ok xn =>
      obtain ⟨x, n⟩ := xn
      rw [run_ask_ok hI] at h
      obtain ⟨n1, n2, n3, n4⟩ := rd_ok hr hI
      obtain ⟨j1, j2, j3, j4, j5⟩ := ih x (hr.drop n) h
      rw [List.length_drop] at j2 j5
      have key : ∀ m s, n ≤ m → run (.ask I k) (r.take m ++ s) p = run (k x) ((r.drop n).take (m - n) ++ s) (p + n) := fun m s hm => by
        have e : r.take m ++ s = r.take n ++ ((r.drop n).take (m - n) ++ s) := by
          rw [← List.append_assoc]
          congr 1
          conv => lhs; rw [show m = n + (m - n) by omega]
          rw [List.take_add]
        have hl : (r.take n).length = n := by simp; omega
        rw [e, run_ask_ok (n3 _), List.drop_append_of_le_length (by omega), List.drop_eq_nil_of_le (by omega), List.nil_append]
      refine ⟨by omega, by omega, j3, fun h5 => ?_, fun h6 => ?_⟩
      · have := key (q - p) [] (by omega)
        rw [List.append_nil, List.append_nil] at this
        rw [this, show q - p - n = q - (p + n) by omega]
        exact j4 h5
      · obtain ⟨m1, m2⟩ := j5 h6
        refine ⟨by omega, fun s => ?_⟩
        rw [key _ _ (by omega), show q - p + 1 - n = q - (p + n) + 1 by omega]
        exact m2 s
end Go.Proofs.YtfhaiklfbnfdlaaDoor
