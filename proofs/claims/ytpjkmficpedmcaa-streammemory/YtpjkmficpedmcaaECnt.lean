/- What is proved: the sum of the holes' sizes is the number of free blocks; no condition. -/
import Derived.Test.YtpjkmficpedmcaaELaw
namespace Go.Proofs.Ytpjkmficpedmcaa
open Go.RowKit
set_option maxRecDepth 100000

def cnt (P : Int → Bool) : Nat → Int
  | 0 => 0
  | n + 1 => cnt P n + (if P n then 1 else 0)
theorem cnt_or (P Q : Int → Bool) (n : Nat) (h : ∀ b : Int, ¬ (P b = true ∧ Q b = true)) : cnt (fun b => P b || Q b) n = cnt P n + cnt Q n := by
  induction n with
  | zero => rfl
  | succ n ih =>
    simp only [cnt, ih]
    have := h n
    by_cases hp : P n = true <;> by_cases hq : Q n = true
    · exact absurd ⟨hp, hq⟩ this
    all_goals simp only [hp, hq, Bool.or_true, Bool.true_or, Bool.or_self, if_true, Bool.false_eq_true, if_false] <;> omega
theorem cnt_congr {P Q : Int → Bool} {n : Nat} (h : ∀ b : Int, P b = Q b) : cnt P n = cnt Q n := by
  have : P = Q := funext h
  rw [this]
def inI (e : Ex) (b : Int) : Bool := decide (e.f ≤ b) && decide (b < e.f + e.c)
theorem cnt_inI (e : Ex) (h0 : 0 ≤ e.f) (h1 : 0 ≤ e.c) (n : Nat) : cnt (inI e) n = max 0 (min (n : Int) (e.f + e.c) - e.f) := by
  induction n with
  | zero => simp only [cnt]; omega
  | succ n ih =>
    simp only [cnt, ih]
    by_cases h : e.f ≤ (n : Int) ∧ (n : Int) < e.f + e.c
    · have : inI e n = true := by simp [inI, h]
      rw [this, if_pos rfl]
      omega
    · have : inI e n = false := by
        simp only [inI, Bool.and_eq_false_iff, decide_eq_false_iff_not]
        omega
      rw [this]
      simp only [Bool.false_eq_true, if_false]
      omega
def mmb (L : List Ex) (b : Int) : Bool := L.any fun e => inI e b
theorem mmb_iff (L : List Ex) (b : Int) : mmb L b = true ↔ Mm b L := by
  simp only [mmb, List.any_eq_true, inI, Bool.and_eq_true, decide_eq_true_eq]
  exact Iff.rfl
theorem sum_cnt {lo : Int} {N : Nat} {L : List Ex} (h : eWF lo N L) (hlo : 0 ≤ lo) : sum L = cnt (mmb L) N := by
  induction L generalizing lo with
  | nil =>
    have : ∀ n, cnt (mmb []) n = 0 := fun n => by
      induction n with
      | zero => rfl
      | succ n ih => simp only [cnt, ih, mmb, List.any_nil]; rfl
    rw [this]
    rfl
  | cons e r ih =>
    obtain ⟨h1, h2, h3, h4⟩ := h
    have e1 : cnt (mmb (e :: r)) N = cnt (fun b => inI e b || mmb r b) N := cnt_congr fun b => by simp [mmb]
    have hd : ∀ b : Int, ¬ (inI e b = true ∧ mmb r b = true) := fun b ⟨q1, q2⟩ => by
      rw [mmb_iff] at q2
      have := h4.mm q2
      simp only [inI, Bool.and_eq_true, decide_eq_true_eq] at q1
      omega
    rw [e1, cnt_or _ _ _ hd, cnt_inI e (by omega) (by omega), sum, ih h4 (by omega)]
    omega
/-- What is given back or given out is so many blocks. -/
theorem sum_add {N : Nat} {L L' : List Ex} {x : Ex} (h : eWF 0 N L) (h' : eWF 0 N L') (x0 : 0 ≤ x.f) (x1 : 0 ≤ x.c) (x2 : x.f + x.c ≤ N) (hn : NoneF x L) (hm : ∀ b, Mm b L' ↔ Mm b L ∨ (x.f ≤ b ∧ b < x.f + x.c)) : sum L' = sum L + x.c := by
  rw [sum_cnt h (Int.le_refl _), sum_cnt h' (Int.le_refl _)]
  have e1 : cnt (mmb L') N = cnt (fun b => mmb L b || inI x b) N := cnt_congr fun b => by
    rw [Bool.eq_iff_iff, Bool.or_eq_true, mmb_iff, mmb_iff, hm b]
    simp only [inI, Bool.and_eq_true, decide_eq_true_eq]
  have hd : ∀ b : Int, ¬ (mmb L b = true ∧ inI x b = true) := fun b ⟨q1, q2⟩ => by
    simp only [inI, Bool.and_eq_true, decide_eq_true_eq] at q2
    exact hn b q2.1 q2.2 ((mmb_iff _ _).1 q1)
  rw [e1, cnt_or _ _ _ hd, cnt_inI x x0 x1]
  omega
theorem sum_sub {N : Nat} {L L' : List Ex} {x : Ex} (h : eWF 0 N L) (h' : eWF 0 N L') (x0 : 0 ≤ x.f) (x1 : 0 ≤ x.c) (x2 : x.f + x.c ≤ N) (ha : AllF x L) (hm : ∀ b, Mm b L' ↔ Mm b L ∧ ¬ (x.f ≤ b ∧ b < x.f + x.c)) : sum L = sum L' + x.c :=
  sum_add h' h x0 x1 x2 (fun b b1 b2 q => ((hm b).1 q).2 ⟨b1, b2⟩) fun b => by
    rw [hm b]
    by_cases q : x.f ≤ b ∧ b < x.f + x.c
    · exact ⟨fun _ => .inr q, fun _ => ha b q.1 q.2⟩
    · exact ⟨fun z => .inl ⟨z, q⟩, fun z => z.elim (·.1) (fun z => absurd z q)⟩
theorem sum_zero {N : Nat} {L : List Ex} (h : eWF 0 N L) (hs : sum L ≤ 0) : L = [] := by
  cases L with
  | nil => rfl
  | cons e r =>
    have := (sum_bounds h.2.2.2).1
    have := h.2.1
    simp only [sum] at hs
    omega
theorem sum_full {N : Nat} {L : List Ex} (h : eWF 0 N L) (hN : 1 ≤ N) (hs : sum L = N) : L = [⟨0, N⟩] := by
  cases L with
  | nil => simp only [sum] at hs; omega
  | cons e r =>
    obtain ⟨h1, h2, h3, h4⟩ := h
    have hb := sum_bounds h4
    simp only [sum] at hs
    rcases hb.2 with rfl | q
    · simp only [sum] at hs
      obtain ⟨f, c⟩ := e
      simp only at *
      obtain rfl : f = 0 := by omega
      obtain rfl : c = N := by omega
      rfl
    · omega
/-- The first count blocks of a hole. -/
theorem First.all {N : Nat} {L : List Ex} (h : eWF 0 N L) {n f : Int} (hf : First L n f) (_hn : 1 ≤ n) : AllF ⟨f, n⟩ L ∧ 0 ≤ f ∧ f + n ≤ N := by
  obtain ⟨i, g, h1, _, h3, rfl⟩ := hf
  have hm := List.mem_of_getElem? h1
  have := h.mem hm
  exact ⟨fun b b1 b2 => ⟨g, hm, b1, by have : b < g.f + n := b2; omega⟩, by omega, by omega⟩

/-- The numbers l lie in w from address a on. -/
def IntsAt (w : World) (a : Option Addr) (l : List Int) : Prop := ∀ i x, l[i]? = some x → ∃ b off, a = some ⟨b, off, none⟩ ∧ b < w.heap.size ∧ w.cell? ⟨b, off + i, none⟩ = some (.int .i64 x)
theorem IntsAt.on {w w' : World} {a : Option Addr} {l : List Int} (h : IntsAt w a l) (hs : Kept w w') : IntsAt w' a l := fun i x hx => by
  obtain ⟨b, off, rfl, hb, c0⟩ := h i x hx
  exact ⟨b, off, rfl, Nat.lt_of_lt_of_le hb hs.size, (hs.cell (p := ⟨b, _, none⟩) hb (fun h => h)).trans c0⟩
end Go.Proofs.Ytpjkmficpedmcaa
