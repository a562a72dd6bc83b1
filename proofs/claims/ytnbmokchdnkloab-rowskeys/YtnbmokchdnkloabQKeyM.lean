/- What is proved: plain facts on a number's bytes, the highest first, and on lists of bytes held against one another: keys compare as rows do; no condition. -/
import Derived.Test.YtnbmokchdnkloabQCmpL
namespace Go.Proofs.Ytnbmokchdnkloab
open Go.RowKit

/-- The lowest s bytes of n, the highest of them first. -/
def be : Nat → Nat → List Int
  | 0, _ => []
  | s + 1, n => ((n / 256 ^ s % 256 : Nat) : Int) :: be s n
theorem be_len (s n : Nat) : (be s n).length = s := by
  induction s with
  | zero => rfl
  | succ s ih => simp only [be, List.length_cons, ih]
theorem byts_be (s n : Nat) : Byts (be s n) := by
  induction s with
  | zero => exact Byts.nil
  | succ s ih => exact Byts.cons (by omega) ih
/-- How two lists stand to one another, byte by byte. -/
def lex : List Int → List Int → Int
  | x :: p, y :: q => if x < y then -1 else if y < x then 1 else lex p q
  | _, _ => 0
theorem lex_lt {x y : Int} {p q : List Int} (h : x < y) : lex (x :: p) (y :: q) = -1 := if_pos h
theorem lex_gt {x y : Int} {p q : List Int} (h : y < x) : lex (x :: p) (y :: q) = 1 := by
  simp only [lex]
  rw [if_neg (by omega), if_pos h]
theorem lex_eq {x : Int} {p q : List Int} : lex (x :: p) (x :: q) = lex p q := by
  simp only [lex]
  rw [if_neg (by omega), if_neg (by omega)]
theorem lex_be (s n m : Nat) (p q : List Int) : lex (be s n ++ p) (be s m ++ q) = if n % 256 ^ s < m % 256 ^ s then -1 else if m % 256 ^ s < n % 256 ^ s then 1 else lex p q := by
  induction s with
  | zero =>
    simp only [be, List.nil_append, Nat.pow_zero, Nat.mod_one]
    rw [if_neg (by omega), if_neg (by omega)]
  | succ s ih =>
    simp only [be, List.cons_append]
    have e1 := Nat.mod_pow_succ (b := 256) (k := s) (x := n)
    have e2 := Nat.mod_pow_succ (b := 256) (k := s) (x := m)
    have hB : 0 < 256 ^ s := Nat.pow_pos (by decide)
    have l1 := Nat.mod_lt n hB
    have l2 := Nat.mod_lt m hB
    rw [e1, e2]
    generalize n / 256 ^ s % 256 = A at *
    generalize m / 256 ^ s % 256 = A' at *
    generalize n % 256 ^ s = a at *
    generalize m % 256 ^ s = a' at *
    generalize 256 ^ s = B at *
    rcases Nat.lt_trichotomy A A' with h | rfl | h
    · have : B * (A + 1) ≤ B * A' := Nat.mul_le_mul_left B h
      rw [Nat.mul_add, Nat.mul_one] at this
      rw [lex_lt (by omega), if_pos (by omega)]
    · rw [lex_eq, ih]
      by_cases h1 : a < a'
      · rw [if_pos h1, if_pos (show a + B * A < a' + B * A by omega)]
      · rw [if_neg h1, if_neg (show ¬ a + B * A < a' + B * A by omega)]
        by_cases h2 : a' < a
        · rw [if_pos h2, if_pos (show a' + B * A < a + B * A by omega)]
        · rw [if_neg h2, if_neg (show ¬ a' + B * A < a + B * A by omega)]
    · have : B * (A' + 1) ≤ B * A := Nat.mul_le_mul_left B h
      rw [Nat.mul_add, Nat.mul_one] at this
      rw [lex_gt (by omega), if_neg (by omega), if_pos (by omega)]
theorem lex_num {s : Nat} {x y : Int} (p q : List Int) (hx : 0 ≤ x) (hy : 0 ≤ y) (h1 : x.toNat < 256 ^ s) (h2 : y.toNat < 256 ^ s) : lex (be s x.toNat ++ p) (be s y.toNat ++ q) = or3 (cmp3 x y) (lex p q) 0 := by
  rw [lex_be, Nat.mod_eq_of_lt h1, Nat.mod_eq_of_lt h2]
  rcases cmp3_cases x y with ⟨h, e, -⟩ | ⟨h, e, -⟩ | ⟨rfl, e, -⟩
  · rw [if_pos (by omega), e]; rfl
  · rw [if_neg (by omega), if_pos (by omega), e]; rfl
  · rw [if_neg (by omega), if_neg (by omega), e, or3_zero]
    by_cases h : lex p q = 0
    · rw [h]; rfl
    · rw [if_pos h]
/-- A row's key. -/
def key9 (order : Int) (r : RwM) : List Int := be 8 r.time.toNat ++ ((if order = 1 then be 1 r.kind.toNat else be 4 r.seq.toNat) ++ be 4 r.index.toNat)
theorem key_len1 (r : RwM) : (key9 1 r).length = 13 := by
  simp only [key9, List.length_append, be_len, if_true]
theorem key_len2 (r : RwM) : (key9 2 r).length = 16 := by
  rw [key9, if_neg (by decide)]
  simp only [List.length_append, be_len]
theorem key_len {order : Int} (ho : order = 1 ∨ order = 2) (a b : RwM) : (key9 order a).length = (key9 order b).length ∧ (key9 order a).length ≤ 16 := by
  rcases ho with rfl | rfl
  · rw [key_len1, key_len1]; exact ⟨rfl, by decide⟩
  · rw [key_len2, key_len2]; exact ⟨rfl, by decide⟩
theorem or3_nest (a b c : Int) : or3 a (or3 b c 0) 0 = or3 a b c := by
  unfold or3
  by_cases ha : a = 0 <;> by_cases hb : b = 0 <;> by_cases hc : c = 0 <;> simp [ha, hb, hc]
/-- Keys compare as rows do. -/
theorem lex_key {order : Int} (ho : order = 1 ∨ order = 2) {a b : RwM} (ha : rightR a) (hb : rightR b) : lex (key9 order a) (key9 order b) = comp order a b := by
  obtain ⟨ka, ⟨a1, a2⟩, ⟨a3, a4⟩, ⟨a5, a6⟩, -⟩ := ha
  obtain ⟨kb, ⟨b1, b2⟩, ⟨b3, b4⟩, ⟨b5, b6⟩, -⟩ := hb
  have last : lex (be 4 a.index.toNat) (be 4 b.index.toNat) = cmp3 a.index b.index := by
    have := lex_num (s := 4) [] [] a5 b5 (by omega) (by omega)
    rw [List.append_nil, List.append_nil] at this
    rw [this]
    unfold or3
    by_cases h : cmp3 a.index b.index = 0 <;> simp [h, lex]
  unfold key9 comp
  rcases ho with rfl | rfl
  · rw [if_pos rfl, if_pos rfl, if_pos rfl, lex_num _ _ a1 b1 (by omega) (by omega), lex_num _ _ (by omega) (by omega) (by omega) (by omega), last, or3_nest]
  · rw [if_neg (by decide), if_neg (by decide), if_neg (by decide), if_pos rfl, lex_num _ _ a1 b1 (by omega) (by omega), lex_num _ _ a3 b3 (by omega) (by omega), last, or3_nest]
end Go.Proofs.Ytnbmokchdnkloab
