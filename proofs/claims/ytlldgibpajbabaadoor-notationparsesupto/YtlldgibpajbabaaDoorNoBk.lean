/- What is proved: plain facts: a line of the form is read as the transaction that it writes, and what is read was a line of the form; no condition. -/
import Derived.Test.YtlldgibpajbabaaDoorNoWL
import Derived.Test.YtlldgibpajbabaaDoorNoPr
import Derived.Test.YtlldgibpajbabaaDoorNoDg
namespace Go.Proofs.YtlldgibpajbabaaDoor
open Go.RowKit

theorem has_app (p r : List UInt8) : Lib.hasPrefix (p ++ r) p = true := by
  unfold Lib.hasPrefix
  exact List.isPrefixOf_iff_prefix.2 (List.prefix_append p r)
theorem trim_app (p r : List UInt8) : Lib.trimPrefix (p ++ r) p = r := by
  unfold Lib.trimPrefix
  rw [if_pos (has_app p r), List.drop_left]
theorem has_inv {l p : List UInt8} (h : Lib.hasPrefix l p = true) : l = p ++ Lib.trimPrefix l p := by
  unfold Lib.trimPrefix
  rw [if_pos h]
  obtain ⟨r, e⟩ := List.isPrefixOf_iff_prefix.1 h
  rw [← e, List.drop_left]
theorem mst_app (p r : List UInt8) : mst p ⟨p ++ r, false⟩ = ⟨r, false⟩ := by
  unfold mst
  simp only [trim_app, has_app]
  rfl
theorem mst_inv {p : List UInt8} {s : Rs} (h : (mst p s).f = false) : s.f = false ∧ s.l = p ++ (mst p s).l := by
  unfold mst at h ⊢
  simp only [Bool.or_eq_false_iff, Bool.not_eq_false'] at h
  exact ⟨h.1, has_inv h.2⟩
/-- The next byte is none of a kind. -/
def Halt (f : UInt8 → Bool) (r : List UInt8) : Prop := ∀ b, r.head? = some b → f b = false
theorem lead_stop {f : UInt8 → Bool} : ∀ {a r : List UInt8}, a.all f = true → Halt f r → lead f (a ++ r) = a.length
  | [], [], _, _ => rfl
  | [], b :: r, _, h => by
    have := h b rfl
    simp [lead, this]
  | x :: a, r, ha, h => by
    simp only [List.all_cons, Bool.and_eq_true] at ha
    have ih := lead_stop (f := f) (a := a) (r := r) ha.2 h
    unfold lead at ih ⊢
    rw [List.cons_append, List.takeWhile_cons, ha.1]
    simp [ih]
theorem dg48 {k : Nat} (h : k < 10) : (UInt8.ofNat (48 + k)).toNat = 48 + k := by
  rw [UInt8.toNat_ofNat']
  omega
theorem dg_of {k : Nat} (h : k < 10) : dg (UInt8.ofNat (48 + k)) = true := by
  unfold dg
  rw [dg48 h, decide_eq_true (by omega), decide_eq_true (by omega)]
  rfl
theorem dec_dg (n : Nat) : (Lib.decDigits n).all dg = true := by
  by_cases h : n < 10
  · rw [dec_one h]
    simp only [List.all_cons, dg_of h, List.all_nil, Bool.and_true]
  · rw [dec_more h, List.all_append, dec_dg (n / 10)]
    simp only [List.all_cons, dg_of (Nat.mod_lt n (by omega)), List.all_nil, Bool.and_true]
termination_by n
decreasing_by omega
theorem dec_val (n : Nat) : val 0 (Lib.decDigits n) = n := by
  by_cases h : n < 10
  · rw [dec_one h]
    show 10 * 0 + ((UInt8.ofNat (48 + n)).toNat - 48) = n
    rw [dg48 h]
    omega
  · rw [dec_more h, val_snoc, dec_val (n / 10), dg48 (Nat.mod_lt n (by omega))]
    omega
termination_by n
decreasing_by omega
theorem dec_len : ∀ (k n : Nat), n < 10 ^ (k + 1) → (Lib.decDigits n).length ≤ k + 1
  | 0, n, h => by rw [dec_one (by simpa using h)]; simp
  | k + 1, n, h => by
    by_cases h9 : n < 10
    · rw [dec_one h9]; simp
    · have := dec_len k (n / 10) (by rw [Nat.pow_succ] at h; omega)
      rw [dec_more h9]
      simp
      omega
theorem head_app {l : List UInt8} (h : l ≠ []) (r : List UInt8) : (l ++ r).head? = l.head? := by
  cases l with
  | nil => exact (h rfl).elim
  | cons a l => rfl
theorem dec_ne (n : Nat) : Lib.decDigits n ≠ [] := by
  by_cases h : n < 10
  · rw [dec_one h]; simp
  · rw [dec_more h]; simp
theorem dec_head (n : Nat) (h0 : n ≠ 0) : (Lib.decDigits n).head? ≠ some 48 := by
  by_cases h : n < 10
  · rw [dec_one h]
    intro e
    have e1 : UInt8.ofNat (48 + n) = 48 := by simpa using e
    have := congrArg UInt8.toNat e1
    rw [dg48 h] at this
    have h48 : (48 : UInt8).toNat = 48 := rfl
    omega
  · rw [dec_more h, head_app (dec_ne _)]
    exact dec_head (n / 10) (by omega)
termination_by n
decreasing_by omega
theorem numb_dec {n : Nat} (h : n < 1000000000000000) : numb (Lib.decDigits n) = some n := by
  have h1 := dec_len 14 n (by simpa using h)
  have h2 : (Lib.decDigits n).length ≠ 0 := fun e => dec_ne n (List.eq_nil_of_length_eq_zero e)
  unfold numb
  rw [if_neg, dec_val]
  rintro (e | e | e | ⟨e, e2⟩)
  · exact h2 e
  · omega
  · rw [dec_dg] at e; cases e
  · by_cases h0 : n = 0
    · subst h0
      rw [dec_one (by omega)] at e2
      simp at e2
    · exact dec_head n h0 e
theorem dg_nat {b : UInt8} (h : dg b = true) : 48 ≤ b.toNat ∧ b.toNat ≤ 57 := by
  unfold dg at h
  simpa using h
theorem dec_back : ∀ (k : Nat) (l : List UInt8), l.length = k + 1 → l.all dg = true → l.head? ≠ some 48 → Lib.decDigits (val 0 l) = l ∧ 0 < val 0 l
  | 0, l, hl, ha, hh => by
    match l, hl with
    | [b], _ =>
      obtain ⟨h1, h2⟩ := dg_nat (b := b) (by simpa using ha)
      have h3 : b.toNat ≠ 48 := fun e => hh (by rw [show b = 48 from UInt8.toNat_inj.1 e]; rfl)
      have e1 : val 0 [b] = b.toNat - 48 := by show 10 * 0 + (b.toNat - 48) = _; omega
      rw [e1, dec_one (by omega), show 48 + (b.toNat - 48) = b.toNat by omega, UInt8.ofNat_toNat]
      exact ⟨rfl, by omega⟩
  | k + 1, l, hl, ha, hh => by
    rcases List.eq_nil_or_concat l with rfl | ⟨l', b, rfl⟩
    · simp at hl
    · simp only [List.concat_eq_append, List.all_append, Bool.and_eq_true, List.length_append, List.length_singleton] at hl ha hh ⊢
      have hne : l' ≠ [] := fun e => by rw [e] at hl; simp at hl
      rw [head_app hne] at hh
      obtain ⟨i1, i2⟩ := dec_back k l' (by omega) ha.1 hh
      obtain ⟨h1, h2⟩ := dg_nat (b := b) (by simpa using ha.2)
      rw [val_snoc, dec_more (by omega), show (10 * val 0 l' + (b.toNat - 48)) / 10 = val 0 l' by omega, show (10 * val 0 l' + (b.toNat - 48)) % 10 = b.toNat - 48 by omega, i1, show 48 + (b.toNat - 48) = b.toNat by omega, UInt8.ofNat_toNat]
      exact ⟨rfl, by omega⟩
theorem numb_inv {l : List UInt8} {n : Nat} (h : numb l = some n) : Lib.decDigits n = l ∧ n < 1000000000000000 := by
  unfold numb at h
  split at h
  · cases h
  · rename_i hc
    simp only [not_or, not_and, Bool.not_eq_false] at hc
    obtain ⟨c1, c2, c3, c4⟩ := hc
    simp only [Option.some.injEq] at h
    subst h
    constructor
    · by_cases hh : l.head? = some 48
      · have := c4 hh
        obtain ⟨b, rfl⟩ := List.length_eq_one_iff.1 (show l.length = 1 by omega)
        simp only [List.head?_cons, Option.some.injEq] at hh
        subst hh
        have e1 : val 0 [48] = 0 := rfl
        rw [e1, dec_one (by omega)]
        rfl
      · exact (dec_back (l.length - 1) l (by omega) c3 hh).1
    · have := val_le l 0 (fun b hb => (dg_nat (List.all_eq_true.1 c3 b hb)).2)
      have h2 : 10 ^ l.length ≤ 10 ^ 15 := Nat.pow_le_pow_right (by omega) (by omega)
      simp at this h2
      omega
theorem itoa_nat (n : Nat) : Lib.itoa (n : Int) = Lib.decDigits n := by
  unfold Lib.itoa
  rw [if_neg (by omega), Int.toNat_natCast]
theorem num_app {n : Nat} (h : n < 1000000000000000) {r : List UInt8} (hr : Halt dg r) (p : List UInt8) : nv p ⟨numL p n ++ r, false⟩ = n ∧ nt p ⟨numL p n ++ r, false⟩ = ⟨r, false⟩ := by
  have e : mst p ⟨numL p n ++ r, false⟩ = ⟨Lib.decDigits n ++ r, false⟩ := by
    unfold numL
    rw [itoa_nat, List.append_assoc]
    exact mst_app _ _
  have hl : lead dg (Lib.decDigits n ++ r) = (Lib.decDigits n).length := lead_stop (dec_dg n) hr
  unfold nv nt numS numO bad drp
  rw [e]
  dsimp only
  rw [hl, List.take_left, List.drop_left, numb_dec h]
  exact ⟨rfl, rfl⟩
theorem num_inv {p : List UInt8} {s : Rs} (h : (nt p s).f = false) : s.f = false ∧ nv p s < 1000000000000000 ∧ s.l = numL p (nv p s) ++ (nt p s).l := by
  unfold nt numS bad drp at h
  simp only [Bool.or_eq_false_iff] at h
  obtain ⟨h1, h2⟩ := h
  obtain ⟨g1, g2⟩ := mst_inv h1
  cases ho : numO (mst p s) with
  | none => rw [ho] at h2; cases h2
  | some n =>
    have e1 : nv p s = n := by unfold nv; rw [ho]; rfl
    have e2 : (nt p s).l = (mst p s).l.drop (lead dg (mst p s).l) := rfl
    obtain ⟨i1, i2⟩ := numb_inv (show numb _ = some n from ho)
    refine ⟨g1, by rw [e1]; exact i2, ?_⟩
    rw [e1, e2]
    unfold numL
    rw [itoa_nat, i1, List.append_assoc, List.take_append_drop]
    exact g2
theorem hx_wch : ∀ n : Fin 16, wch (hx n.val) = true := by decide +kernel
theorem hexs_wch (l : List UInt8) : (hexs l).all wch = true := by
  unfold hexs
  rw [List.all_flatMap, List.all_eq_true]
  intro b _
  have h1 := hx_wch ⟨b.toNat / 16, by have := b.toNat_lt; omega⟩
  have h2 := hx_wch ⟨b.toNat % 16, by omega⟩
  simp only at h1 h2
  simp [h1, h2]
theorem wd_wch (l : List UInt8) : (wd l).all wch = true := by
  unfold wd
  split
  · rename_i h
    unfold pln at h
    simp only [Bool.and_eq_true] at h
    rw [List.all_eq_true] at h ⊢
    intro b hb
    unfold wch
    rw [h.1 b hb, Bool.or_true]
  · rw [List.all_cons, hexs_wch]
    rfl
theorem wrd_app {r : List UInt8} (hr : Halt wch r) (c : List UInt8) : word1 ⟨wd c ++ r, false⟩ = c ∧ wrdS ⟨wd c ++ r, false⟩ = ⟨r, false⟩ := by
  have hl : lead wch (wd c ++ r) = (wd c).length := lead_stop (wd_wch c) hr
  unfold word1 wrdS wrdO bad drp
  dsimp only
  rw [hl, List.take_left, List.drop_left, uwd_wd]
  exact ⟨rfl, rfl⟩
theorem wrd_inv {s : Rs} (h : (wrdS s).f = false) : s.f = false ∧ s.l = wd (word1 s) ++ (wrdS s).l := by
  unfold wrdS bad drp at h
  simp only [Bool.or_eq_false_iff] at h
  obtain ⟨h1, h2⟩ := h
  cases ho : wrdO s with
  | none => rw [ho] at h2; cases h2
  | some c =>
    have e1 : word1 s = c := by unfold word1; rw [ho]; rfl
    have e2 : (wrdS s).l = s.l.drop (lead wch s.l) := rfl
    refine ⟨h1, ?_⟩
    rw [e1, e2, wd_uwd (show uwd _ = some c from ho), List.take_append_drop]
/-- An operation of the form. -/
def FormO (o : OpM) : Prop := (o.kind = 1 ∧ (o.found = true ∨ o.value.size = 0)) ∨ (o.kind = 2 ∧ o.found = true) ∨ (o.kind = 3 ∧ o.found = false ∧ o.value.size = 0)
def inF (n : Int) : Prop := 0 ≤ n ∧ n < 1000000000000000
/-- A transaction that has a line. -/
structure Form (t : TxM) : Prop where
  a0 : inF t.f0
  a1 : inF t.f1
  a2 : inF t.f2
  a3 : inF t.f3
  a4 : inF t.f4
  a5 : inF t.f5
  a6 : t.f6 = 0 ∨ t.f6 = 1
  ops : ∀ o ∈ t.ops, FormO o
theorem form_right {t : TxM} (h : Right t) : Form t := by
  obtain ⟨⟨⟨a, b⟩, ⟨c, d⟩, ⟨e, f⟩, ⟨g, i⟩, ⟨j, k⟩, ⟨m, n⟩, ⟨p, q⟩⟩, -, ho⟩ := h
  exact ⟨⟨a, by omega⟩, ⟨c, by omega⟩, ⟨e, by omega⟩, ⟨g, by omega⟩, ⟨j, by omega⟩, ⟨m, by omega⟩, by omega, fun o h => (ho o h).2⟩
theorem bts_of (s : ByteArray) : bts s.data.toList = s := rfl
theorem size_nil {s : ByteArray} (h : s.size = 0) : s = bts [] := by
  apply ByteArray.ext
  have : s.data.size = 0 := h
  exact Array.eq_empty_of_size_eq_zero this
/-- What may stand behind an operation. -/
def Rest (r : List UInt8) : Prop := r = [] ∨ ∃ r', r = 32 :: r'
theorem Rest.w {r : List UInt8} (h : Rest r) : Halt wch r := by
  rcases h with rfl | ⟨r', rfl⟩
  · intro b hb; simp at hb
  · intro b hb
    simp only [List.head?_cons, Option.some.injEq] at hb
    subst hb
    decide
theorem Rest.d {r : List UInt8} (h : Rest r) : Halt dg r := by
  rcases h with rfl | ⟨r', rfl⟩
  · intro b hb; simp at hb
  · intro b hb
    simp only [List.head?_cons, Option.some.injEq] at hb
    subst hb
    decide
theorem halt_cons {f : UInt8 → Bool} {b : UInt8} (h : f b = false) (r : List UInt8) : Halt f (b :: r) := fun x hx => by
  simp only [List.head?_cons, Option.some.injEq] at hx
  subst hx
  exact h
theorem has_ne {b c : UInt8} (h : b ≠ c) (l p : List UInt8) : Lib.hasPrefix (b :: l) (c :: p) = false := by
  unfold Lib.hasPrefix
  simp [List.isPrefixOf, beq_eq_false_iff_ne.2 (Ne.symm h)]
theorem trim_no {l p : List UInt8} (h : Lib.hasPrefix l p = false) : Lib.trimPrefix l p = l := by
  unfold Lib.trimPrefix
  rw [h]
  rfl
end Go.Proofs.YtlldgibpajbabaaDoor
