/- What is proved: plain facts on a transaction's body: it is read back, it is read off its own bytes alone, what is read is its one form; no condition. -/
import Derived.Test.YtfhaiklfbnfdlaaDoorRPure
namespace Go.Proofs.YtfhaiklfbnfdlaaDoor
open Go.RowKit

structure OpM where
  kind : Int
  key : ByteArray
  found : Bool
  value : ByteArray
/-- A transaction: its seven numbers, its operations. -/
structure TxM where
  f0 : Int
  f1 : Int
  f2 : Int
  f3 : Int
  f4 : Int
  f5 : Int
  f6 : Int
  ops : List OpM

def rightO (o : OpM) : Prop := ¬ (o.key.size = 0 ∨ 8 < o.key.size ∨ 16 < o.value.size) ∧ ((o.kind = 1 ∧ (o.found = true ∨ o.value.size = 0)) ∨ (o.kind = 2 ∧ o.found = true) ∨ (o.kind = 3 ∧ o.found = false ∧ o.value.size = 0))
instance (o : OpM) : Decidable (rightO o) := by unfold rightO; infer_instance
def inB (n most : Int) : Prop := 0 ≤ n ∧ n ≤ most
instance (a b : Int) : Decidable (inB a b) := by unfold inB; infer_instance
def rightF (t : TxM) : Prop := inB t.f0 1048575 ∧ inB t.f1 1048575 ∧ inB t.f2 1099511627776 ∧ inB t.f3 1099511627776 ∧ inB t.f4 1099511627776 ∧ inB t.f5 1099511627776 ∧ inB t.f6 1
instance (t : TxM) : Decidable (rightF t) := by unfold rightF; infer_instance
def valid (t : TxM) : Int := if ¬ rightF t then 62 else if 16 < t.ops.length then 63 else if ∃ o ∈ t.ops, ¬ rightO o then 64 else 0
def Right (t : TxM) : Prop := rightF t ∧ t.ops.length ≤ 16 ∧ ∀ o ∈ t.ops, rightO o
theorem valid_zero {t : TxM} : valid t = 0 ↔ Right t := by
  unfold valid Right
  by_cases h1 : rightF t
  · rw [if_neg (by simpa using h1)]
    by_cases h2 : 16 < t.ops.length
    · rw [if_pos h2]
      exact ⟨fun h => by simp at h, fun h => by omega⟩
    · rw [if_neg h2]
      by_cases h3 : ∃ o ∈ t.ops, ¬ rightO o
      · rw [if_pos h3]
        refine ⟨fun h => by simp at h, fun h => ?_⟩
        obtain ⟨o, ho, hn⟩ := h3
        exact absurd (h.2.2 o ho) hn
      · rw [if_neg h3]
        refine ⟨fun _ => ⟨h1, by omega, fun o ho => ?_⟩, fun _ => rfl⟩
        by_cases hr : rightO o
        · exact hr
        · exact absurd ⟨o, ho, hr⟩ h3
  · rw [if_pos h1]
    exact ⟨fun h => by simp at h, fun h => absurd h.1 h1⟩

def tagO (o : OpM) : Nat := if o.kind = 2 then 3 else if o.kind = 3 then 4 else if o.found then 1 else 2
theorem tagO_b (o : OpM) : 1 ≤ tagO o ∧ tagO o ≤ 4 := by
  unfold tagO
  by_cases h1 : o.kind = 2
  · rw [if_pos h1]; omega
  · rw [if_neg h1]
    by_cases h2 : o.kind = 3
    · rw [if_pos h2]; omega
    · rw [if_neg h2]
      by_cases h3 : o.found = true
      · rw [if_pos h3]; omega
      · rw [if_neg h3]; omega
def encT (s : ByteArray) : List Int := form s.size ++ nums s
def encO (o : OpM) : List Int := (tagO o : Int) :: (encT o.key ++ (if o.found then encT o.value else []))
def encOs : List OpM → List Int
  | [] => []
  | o :: r => encO o ++ encOs r
def forms : List Int → List Int
  | [] => []
  | x :: r => form x.toNat ++ forms r
def heads (t : TxM) : List Int := [t.f0, t.f1, t.f2, t.f3, t.f4, t.f5, t.f6, (t.ops.length : Int)]
def body (t : TxM) : List Int := forms (heads t) ++ encOs t.ops

def mkO (tag : Nat) (k v : List Int) : OpM := ⟨if tag = 3 then 2 else if tag = 4 then 3 else 1, strOfNums k, decide (tag = 1 ∨ tag = 3), strOfNums v⟩
def pgO : Pg OpM := .ask .tg fun x => .ask (.tx 1 8) fun y => if x.1 = 1 ∨ x.1 = 3 then .ask (.tx 0 16) fun z => .ret (mkO x.1 y.2 z.2) else .ret (mkO x.1 y.2 [])
def pgOs : Nat → Pg (List OpM)
  | 0 => .ret []
  | n + 1 => pgO.bind fun o => (pgOs n).bind fun r => .ret (o :: r)
def pgT : Pg TxM := .ask (.nm 1048575) fun a0 => .ask (.nm 1048575) fun a1 => .ask (.nm 1099511627776) fun a2 => .ask (.nm 1099511627776) fun a3 => .ask (.nm 1099511627776) fun a4 => .ask (.nm 1099511627776) fun a5 => .ask (.nm 1) fun a6 => .ask (.nm 16) fun a7 =>
  (pgOs a7.1).bind fun os => .ret ⟨a0.1, a1.1, a2.1, a3.1, a4.1, a5.1, a6.1, os⟩
/-- What Decode answers. -/
def decode (l : List Int) : Except (Nat × Int) TxM := match run pgT l 0 with
  | .error pe => .error pe
  | .ok (t, q) => if q < l.length then .error (q, 61) else .ok t

theorem form_len3 {x : Int} (h : inB x 1048575) : (form x.toNat).length ≤ 3 := form_le (by decide) (by have := h.2; omega)
theorem form_len6 {x : Int} (h : inB x 1099511627776) : (form x.toNat).length ≤ 6 := form_le (by decide) (by have := h.2; omega)
theorem form_len1 {n : Nat} (h : n < 128) : (form n).length = 1 := by rw [form_small h]; rfl
theorem enc_nm {n most : Nat} (h : n ≤ most) (hm : most ≤ 72057594037927935) (s : List Int) : rd (.nm most) (form n ++ s) = .ok ((n, []), (form n).length) := by
  have e := num_form (k := 8) (n := n) s (by decide) (by omega) (.inl rfl)
  simp only [rd]
  rw [e, if_neg (by simp), if_neg (by omega)]
theorem encT_len (k : ByteArray) : (encT k).length = (form k.size).length + k.size := by rw [encT, List.length_append, nums_length]
theorem enc_tx {lo hi : Nat} {k : ByteArray} (h1 : lo ≤ k.size) (h2 : k.size ≤ hi) (hm : hi ≤ 72057594037927935) (s : List Int) : rd (.tx lo hi) (encT k ++ s) = .ok ((k.size, nums k), (encT k).length) := by
  have e := num_form (k := 8) (n := k.size) (nums k ++ s) (by decide) (by omega) (.inl rfl)
  rw [encT, List.append_assoc]
  simp only [rd]
  rw [e, if_neg (by simp), if_neg (by omega), if_neg (by simp [nums_length])]
  simp only [Except.ok.injEq, Prod.mk.injEq, true_and]
  refine ⟨?_, by rw [List.length_append, nums_length]⟩
  rw [List.drop_append_of_le_length (Nat.le_refl _), List.drop_eq_nil_of_le (Nat.le_refl _), List.nil_append, List.take_append_of_le_length (by rw [nums_length]; omega), List.take_of_length_le (by rw [nums_length]; omega)]
theorem drop_self_append (a s : List Int) : (a ++ s).drop a.length = s := by
  rw [List.drop_append_of_le_length (Nat.le_refl _), List.drop_eq_nil_of_le (Nat.le_refl _), List.nil_append]
theorem size_zero {s : ByteArray} (h : s.size = 0) : strOfNums [] = s := by
  have : nums s = [] := List.eq_nil_of_length_eq_zero (by rw [nums_length]; exact h)
  rw [← this, strOf_nums]

theorem run_op {o : OpM} (h : rightO o) (s : List Int) (p : Nat) : run pgO (encO o ++ s) p = .ok (o, p + (encO o).length) := by
  obtain ⟨h1, h2⟩ := h
  have ht : 1 ≤ (tagO o : Int) ∧ (tagO o : Int) ≤ 4 := by have := tagO_b o; omega
  have e1 : rd .tg (encO o ++ s) = .ok ((tagO o, []), 1) := by
    simp only [encO, List.cons_append, rd]
    rw [if_pos ht]
    simp
  have e2 := enc_tx (lo := 1) (hi := 8) (k := o.key) (by omega) (by omega) (by decide) ((if o.found then encT o.value else []) ++ s)
  unfold pgO
  rw [run_ask_ok e1]
  have ed : (encO o ++ s).drop 1 = encT o.key ++ ((if o.found then encT o.value else []) ++ s) := by
    simp [encO]
  rw [ed, run_ask_ok e2, drop_self_append]
  by_cases hf : o.found = true
  · have htg : tagO o = 1 ∨ tagO o = 3 := by
      unfold tagO
      rcases h2 with ⟨k, _⟩ | ⟨k, _⟩ | ⟨k, kf, _⟩
      · rw [if_neg (by omega), if_neg (by omega), if_pos hf]; simp
      · rw [if_pos k]; simp
      · rw [hf] at kf; cases kf
    rw [if_pos htg]
    have e3 := enc_tx (lo := 0) (hi := 16) (k := o.value) (by omega) (by omega) (by decide) s
    rw [if_pos hf]
    rw [run_ask_ok e3, drop_self_append]
    simp only [run, Except.ok.injEq, Prod.mk.injEq]
    refine ⟨?_, by simp only [encO, List.length_cons, List.length_append, if_pos hf]; omega⟩
    obtain ⟨kind, key, found, value⟩ := o
    simp only at hf h2
    subst hf
    simp only [mkO, strOf_nums, OpM.mk.injEq, true_and, and_true]
    refine ⟨?_, by simpa using htg⟩
    unfold tagO
    rcases h2 with ⟨k, _⟩ | ⟨k, _⟩ | ⟨k, kf, _⟩
    · subst k; simp
    · subst k; simp
    · cases kf
  · have hf' : o.found = false := by simpa using hf
    have htg : ¬ (tagO o = 1 ∨ tagO o = 3) := by
      unfold tagO
      rcases h2 with ⟨k, _⟩ | ⟨k, kf⟩ | ⟨k, kf, _⟩
      · rw [if_neg (by omega), if_neg (by omega), if_neg hf]; simp
      · rw [hf'] at kf; cases kf
      · rw [if_neg (by omega), if_pos k]; simp
    rw [if_neg htg]
    simp only [run, Except.ok.injEq, Prod.mk.injEq]
    refine ⟨?_, by simp only [encO, List.length_cons, List.length_append, hf', Bool.false_eq_true, if_false, List.length_nil]; omega⟩
    have hv : o.value.size = 0 := by
      rcases h2 with ⟨k, q | q⟩ | ⟨k, kf⟩ | ⟨k, kf, q⟩
      · exact absurd q hf
      · exact q
      · rw [hf'] at kf; cases kf
      · exact q
    obtain ⟨kind, key, found, value⟩ := o
    simp only at hf' h2 hv
    subst hf'
    simp only [mkO, strOf_nums, OpM.mk.injEq, true_and]
    refine ⟨?_, by simpa using htg, size_zero hv⟩
    unfold tagO
    rcases h2 with ⟨k, _⟩ | ⟨k, kf⟩ | ⟨k, kf, _⟩
    · subst k; simp
    · cases kf
    · subst k; simp
theorem run_ops {l : List OpM} (h : ∀ o ∈ l, rightO o) (s : List Int) (p : Nat) : run (pgOs l.length) (encOs l ++ s) p = .ok (l, p + (encOs l).length) := by
  induction l generalizing p with
  | nil => simp [pgOs, run, encOs]
  | cons o r ih =>
    simp only [List.length_cons, pgOs, encOs, List.append_assoc]
    rw [run_bind, run_op (h o (by simp))]
    simp only [Nat.add_sub_cancel_left]
    rw [run_bind, drop_self_append, ih (fun o ho => h o (by simp [ho]))]
    simp only [run, List.length_append]
    rw [Nat.add_assoc]
theorem run_tx {t : TxM} (h : Right t) (s : List Int) : run pgT (body t ++ s) 0 = .ok (t, (body t).length) := by
  obtain ⟨⟨h0, h1, h2, h3, h4, h5, h6⟩, hn, ho⟩ := h
  obtain ⟨f0, f1, f2, f3, f4, f5, f6, ops⟩ := t
  simp only at h0 h1 h2 h3 h4 h5 h6 hn ho
  unfold inB at h0 h1 h2 h3 h4 h5 h6
  unfold pgT body heads forms forms forms forms forms forms forms forms forms
  simp only [List.append_assoc, List.nil_append]
  rw [run_ask_ok (enc_nm (by omega) (by decide) _), drop_self_append, run_ask_ok (enc_nm (by omega) (by decide) _), drop_self_append, run_ask_ok (enc_nm (by omega) (by decide) _), drop_self_append, run_ask_ok (enc_nm (by omega) (by decide) _), drop_self_append, run_ask_ok (enc_nm (by omega) (by decide) _), drop_self_append, run_ask_ok (enc_nm (by omega) (by decide) _), drop_self_append, run_ask_ok (enc_nm (by omega) (by decide) _), drop_self_append, run_ask_ok (enc_nm (by simp; omega) (by decide) _), drop_self_append]
  rw [run_bind]
  simp only [Int.toNat_natCast]
  rw [run_ops ho]
  simp only [run, Except.ok.injEq, Prod.mk.injEq, TxM.mk.injEq, and_true, List.length_append]
  refine ⟨⟨by omega, by omega, by omega, by omega, by omega, by omega, by omega⟩, by omega⟩
theorem dec_body {t : TxM} (h : Right t) : decode (body t) = .ok t := by
  have := run_tx h []
  rw [List.append_nil] at this
  unfold decode
  rw [this]
  simp
theorem dec_tail {t : TxM} (h : Right t) {s : List Int} (hs : s ≠ []) : decode (body t ++ s) = .error ((body t).length, 61) := by
  unfold decode
  rw [run_tx h s]
  simp only
  rw [if_pos]
  rw [List.length_append]
  have := List.length_pos_iff.2 hs
  omega

theorem byts_nums (l : List Int) (h : Byts l) : nums (strOfNums l) = l := by
  unfold nums
  rw [strOfNums_data, List.map_map]
  conv => rhs; rw [← List.map_id l]
  apply List.map_congr_left
  intro x hx
  have := h x hx
  simp only [Function.comp, id]
  rw [UInt8.toNat_ofNat']
  omega
theorem byts_encT (s : ByteArray) : Byts (encT s) := (byts_form _).append (nums_byts s)
theorem byts_encO (o : OpM) : Byts (encO o) := by
  unfold encO
  refine Byts.cons (by have := tagO_b o; omega) ((byts_encT _).append ?_)
  split
  · exact byts_encT _
  · exact Byts.nil
theorem byts_encOs (l : List OpM) : Byts (encOs l) := by
  induction l with
  | nil => exact Byts.nil
  | cons o r ih => exact (byts_encO o).append ih
theorem byts_forms (l : List Int) : Byts (forms l) := by
  induction l with
  | nil => exact Byts.nil
  | cons o r ih => exact (byts_form _).append ih
theorem byts_body (t : TxM) : Byts (body t) := (byts_forms _).append (byts_encOs _)
theorem dec_cut {t : TxM} (h : Right t) {c : Nat} (hc : c < (body t).length) : ∃ z, z ≤ c ∧ decode ((body t).take c) = .error (z, 51) := by
  have := run_tx h []
  rw [List.append_nil] at this
  obtain ⟨-, -, -, j⟩ := run_ok (byts_body t) this
  obtain ⟨z, z1, z2⟩ := j c (by omega)
  refine ⟨z, by omega, ?_⟩
  unfold decode
  rw [z2]

theorem one_nm {r : List Int} {most n k : Nat} {y : List Int} (hr : Byts r) (h : rd (.nm most) r = .ok ((n, y), k)) : n ≤ most ∧ form n = r.take k := by
  simp only [rd] at h
  by_cases h0 : (num 8 r).2.2 = 0
  · rw [if_neg (by simpa using h0)] at h
    by_cases h1 : most < (num 8 r).1
    · rw [if_pos h1] at h
      cases h
    · rw [if_neg h1] at h
      simp only [Except.ok.injEq, Prod.mk.injEq] at h
      obtain ⟨⟨rfl, -⟩, rfl⟩ := h
      exact ⟨by omega, (num_one (by decide) hr h0).1⟩
  · rw [if_pos h0] at h
    cases h
theorem one_tx {r : List Int} {lo hi n k : Nat} {y : List Int} (hr : Byts r) (h : rd (.tx lo hi) r = .ok ((n, y), k)) : lo ≤ n ∧ n ≤ hi ∧ y.length = n ∧ Byts y ∧ encT (strOfNums y) = r.take k := by
  simp only [rd] at h
  by_cases h0 : (num 8 r).2.2 = 0
  · rw [if_neg (by simpa using h0)] at h
    by_cases h1 : (num 8 r).1 < lo ∨ hi < (num 8 r).1
    · rw [if_pos h1] at h
      cases h
    · rw [if_neg h1] at h
      by_cases h2 : r.length < (num 8 r).2.1 + (num 8 r).1
      · rw [if_pos h2] at h
        cases h
      · rw [if_neg h2] at h
        simp only [Except.ok.injEq, Prod.mk.injEq] at h
        obtain ⟨⟨rfl, rfl⟩, rfl⟩ := h
        have hl : ((r.drop (num 8 r).2.1).take (num 8 r).1).length = (num 8 r).1 := by simp; omega
        have hb : Byts ((r.drop (num 8 r).2.1).take (num 8 r).1) := (hr.drop _).take _
        refine ⟨by omega, by omega, hl, hb, ?_⟩
        rw [encT, strOfNums_size, byts_nums _ hb, hl, (num_one (by decide) hr h0).1, ← List.take_add]
  · rw [if_pos h0] at h
    cases h
theorem one_tg {r : List Int} {n k : Nat} {y : List Int} (h : rd .tg r = .ok ((n, y), k)) : 1 ≤ n ∧ n ≤ 4 ∧ [(n : Int)] = r.take k := by
  cases r with
  | nil => cases h
  | cons x r =>
    simp only [rd] at h
    by_cases h1 : 1 ≤ x ∧ x ≤ 4
    · rw [if_pos h1] at h
      simp only [Except.ok.injEq, Prod.mk.injEq] at h
      obtain ⟨⟨rfl, rfl⟩, rfl⟩ := h
      refine ⟨by omega, by omega, ?_⟩
      simp
      omega
    · rw [if_neg h1] at h
      cases h
theorem take_split (r : List Int) {a b : Nat} (h : a ≤ b) : r.take b = r.take a ++ (r.drop a).take (b - a) := by
  conv => lhs; rw [show b = a + (b - a) by omega]
  rw [List.take_add]
theorem one_op {r : List Int} {p q : Nat} {o : OpM} (hr : Byts r) (h : run pgO r p = .ok (o, q)) : rightO o ∧ encO o = r.take (q - p) := by
  unfold pgO at h
  cases h1 : rd .tg r with
  | error e => rw [run_ask_err h1] at h; cases h
  | ok x =>
    obtain ⟨⟨x, x'⟩, n1⟩ := x
    rw [run_ask_ok h1] at h
    obtain ⟨t1, t2, t3⟩ := one_tg h1
    cases h2 : rd (.tx 1 8) (r.drop n1) with
    | error e => rw [run_ask_err h2] at h; cases h
    | ok y =>
      obtain ⟨⟨y, y'⟩, n2⟩ := y
      rw [run_ask_ok h2] at h
      obtain ⟨u1, u2, u3, u4, u5⟩ := one_tx (hr.drop n1) h2
      simp only at h
      by_cases hx : x = 1 ∨ x = 3
      · rw [if_pos hx] at h
        cases h3 : rd (.tx 0 16) ((r.drop n1).drop n2) with
        | error e => rw [run_ask_err h3] at h; cases h
        | ok z =>
          obtain ⟨⟨z, z'⟩, n3⟩ := z
          rw [run_ask_ok h3] at h
          obtain ⟨v1, v2, v3, v4, v5⟩ := one_tx ((hr.drop n1).drop n2) h3
          simp only [run, Except.ok.injEq, Prod.mk.injEq] at h
          obtain ⟨rfl, rfl⟩ := h
          refine ⟨⟨by simp only [mkO, strOfNums_size]; omega, ?_⟩, ?_⟩
          · simp only [mkO]
            rcases hx with rfl | rfl <;> simp
          · have ht : tagO (mkO x y' z') = x := by
              unfold tagO mkO
              rcases hx with rfl | rfl <;> simp
            have hf : (mkO x y' z').found = true := by simpa [mkO] using hx
            unfold encO
            rw [ht, if_pos hf]
            simp only [mkO]
            rw [u5, v5, show p + n1 + n2 + n3 - p = n1 + (n2 + n3) by omega, List.take_add, List.take_add, ← t3]
            rfl
      · rw [if_neg hx] at h
        simp only [run, Except.ok.injEq, Prod.mk.injEq] at h
        obtain ⟨rfl, rfl⟩ := h
        have hx' : x = 2 ∨ x = 4 := by omega
        refine ⟨⟨by simp only [mkO, strOfNums_size, List.length_nil]; omega, ?_⟩, ?_⟩
        · simp only [mkO, strOfNums_size]
          rcases hx' with rfl | rfl <;> simp
        · have ht : tagO (mkO x y' []) = x := by
            unfold tagO mkO
            rcases hx' with rfl | rfl <;> simp
          have hf : (mkO x y' []).found = false := by simpa [mkO] using hx
          unfold encO
          rw [ht, hf]
          simp only [mkO, Bool.false_eq_true, if_false, List.append_nil]
          rw [u5, show p + n1 + n2 - p = n1 + n2 by omega, List.take_add, ← t3]
          rfl
theorem one_ops : ∀ {n : Nat} {r : List Int} {p q : Nat} {l : List OpM}, Byts r → run (pgOs n) r p = .ok (l, q) → l.length = n ∧ (∀ o ∈ l, rightO o) ∧ encOs l = r.take (q - p) := by
  intro n
  induction n with
  | zero =>
    intro r p q l hr h
    simp only [pgOs, run, Except.ok.injEq, Prod.mk.injEq] at h
    obtain ⟨rfl, rfl⟩ := h
    simp [encOs]
  | succ n ih =>
    intro r p q l hr h
    simp only [pgOs] at h
    rw [run_bind] at h
    cases h1 : run pgO r p with
    | error e => rw [h1] at h; cases h
    | ok x =>
      obtain ⟨o, q1⟩ := x
      rw [h1] at h
      simp only at h
      rw [run_bind] at h
      obtain ⟨a1, a2⟩ := one_op hr h1
      obtain ⟨b1, b2, -, -⟩ := run_ok hr h1
      cases h2 : run (pgOs n) (r.drop (q1 - p)) q1 with
      | error e => rw [h2] at h; cases h
      | ok y =>
        obtain ⟨l', q2⟩ := y
        rw [h2] at h
        simp only [run, Except.ok.injEq, Prod.mk.injEq] at h
        obtain ⟨rfl, rfl⟩ := h
        obtain ⟨c1, c2, c3⟩ := ih (hr.drop _) h2
        obtain ⟨d1, -, -, -⟩ := run_ok (hr.drop _) h2
        refine ⟨by simp [c1], fun o' ho' => ?_, ?_⟩
        · rcases List.mem_cons.1 ho' with rfl | ho'
          · exact a1
          · exact c2 o' ho'
        · rw [encOs, a2, c3, take_split r (show q1 - p ≤ q2 - p by omega), show q2 - p - (q1 - p) = q2 - q1 by omega]
theorem one_tx2 {r : List Int} {q : Nat} {t : TxM} (hr : Byts r) (h : run pgT r 0 = .ok (t, q)) : Right t ∧ body t = r.take q := by
  unfold pgT at h
  cases h0 : rd (.nm 1048575) r with
  | error e => rw [run_ask_err h0] at h; cases h
  | ok x0 =>
  obtain ⟨⟨a0, b0⟩, n0⟩ := x0
  rw [run_ask_ok h0] at h
  obtain ⟨u0, v0⟩ := one_nm hr h0
  have hr := hr.drop n0
  cases h1 : rd (.nm 1048575) (r.drop n0) with
  | error e => rw [run_ask_err h1] at h; cases h
  | ok x1 =>
  obtain ⟨⟨a1, b1⟩, n1⟩ := x1
  rw [run_ask_ok h1] at h
  obtain ⟨u1, v1⟩ := one_nm hr h1
  have hr := hr.drop n1
  cases h2 : rd (.nm 1099511627776) ((r.drop n0).drop n1) with
  | error e => rw [run_ask_err h2] at h; cases h
  | ok x2 =>
  obtain ⟨⟨a2, b2⟩, n2⟩ := x2
  rw [run_ask_ok h2] at h
  obtain ⟨u2, v2⟩ := one_nm hr h2
  have hr := hr.drop n2
  cases h3 : rd (.nm 1099511627776) (((r.drop n0).drop n1).drop n2) with
  | error e => rw [run_ask_err h3] at h; cases h
  | ok x3 =>
  obtain ⟨⟨a3, b3⟩, n3⟩ := x3
  rw [run_ask_ok h3] at h
  obtain ⟨u3, v3⟩ := one_nm hr h3
  have hr := hr.drop n3
  cases h4 : rd (.nm 1099511627776) ((((r.drop n0).drop n1).drop n2).drop n3) with
  | error e => rw [run_ask_err h4] at h; cases h
  | ok x4 =>
  obtain ⟨⟨a4, b4⟩, n4⟩ := x4
  rw [run_ask_ok h4] at h
  obtain ⟨u4, v4⟩ := one_nm hr h4
  have hr := hr.drop n4
  cases h5 : rd (.nm 1099511627776) (((((r.drop n0).drop n1).drop n2).drop n3).drop n4) with
  | error e => rw [run_ask_err h5] at h; cases h
  | ok x5 =>
  obtain ⟨⟨a5, b5⟩, n5⟩ := x5
  rw [run_ask_ok h5] at h
  obtain ⟨u5, v5⟩ := one_nm hr h5
  have hr := hr.drop n5
  cases h6 : rd (.nm 1) ((((((r.drop n0).drop n1).drop n2).drop n3).drop n4).drop n5) with
  | error e => rw [run_ask_err h6] at h; cases h
  | ok x6 =>
  obtain ⟨⟨a6, b6⟩, n6⟩ := x6
  rw [run_ask_ok h6] at h
  obtain ⟨u6, v6⟩ := one_nm hr h6
  have hr := hr.drop n6
  cases h7 : rd (.nm 16) (((((((r.drop n0).drop n1).drop n2).drop n3).drop n4).drop n5).drop n6) with
  | error e => rw [run_ask_err h7] at h; cases h
  | ok x7 =>
  obtain ⟨⟨a7, b7⟩, n7⟩ := x7
  rw [run_ask_ok h7] at h
  obtain ⟨u7, v7⟩ := one_nm hr h7
  have hr := hr.drop n7
  rw [run_bind] at h
  simp only at h
  cases h8 : run (pgOs a7) ((((((((r.drop n0).drop n1).drop n2).drop n3).drop n4).drop n5).drop n6).drop n7) (0 + n0 + n1 + n2 + n3 + n4 + n5 + n6 + n7) with
  | error e => rw [h8] at h; cases h
  | ok x8 =>
  obtain ⟨os, q8⟩ := x8
  rw [h8] at h
  simp only [run, Except.ok.injEq, Prod.mk.injEq] at h
  obtain ⟨rfl, rfl⟩ := h
  obtain ⟨w1, w2, w3⟩ := one_ops hr h8
  obtain ⟨y1, -, -, -⟩ := run_ok hr h8
  refine ⟨⟨⟨by unfold inB; simp only; omega, by unfold inB; simp only; omega, by unfold inB; simp only; omega, by unfold inB; simp only; omega, by unfold inB; simp only; omega, by unfold inB; simp only; omega, by unfold inB; simp only; omega⟩, by simp only; omega, w2⟩, ?_⟩
  simp only [body, heads, forms, Int.toNat_natCast]
  rw [w1, v0, v1, v2, v3, v4, v5, v6, v7, w3]
  obtain ⟨m, em⟩ : ∃ m, m = q8 - (0 + n0 + n1 + n2 + n3 + n4 + n5 + n6 + n7) := ⟨_, rfl⟩
  rw [← em, show q8 = n0 + (n1 + (n2 + (n3 + (n4 + (n5 + (n6 + (n7 + m))))))) by omega]
  simp only [List.take_add, List.append_assoc, List.append_nil]
theorem dec_ok {l : List Int} {t : TxM} (hl : Byts l) (h : decode l = .ok t) : Right t ∧ body t = l := by
  unfold decode at h
  cases h1 : run pgT l 0 with
  | error e => rw [h1] at h; cases h
  | ok x =>
    obtain ⟨t', q⟩ := x
    rw [h1] at h
    simp only at h
    by_cases hq : q < l.length
    · rw [if_pos hq] at h
      cases h
    · rw [if_neg hq] at h
      cases h
      obtain ⟨a, b⟩ := one_tx2 hl h1
      exact ⟨a, by rw [b, List.take_of_length_le (by omega)]⟩
/-- Where a fault lies. -/
theorem dec_err {l : List Int} {p : Nat} {e : Int} (hl : Byts l) (h : decode l = .error (p, e)) :
    p ≤ l.length ∧ (e = 51 ∨ e = 52 ∨ e = 53 ∨ e = 60 ∨ e = 61) ∧ (e = 51 → decode (l.take p) = .error (p, 51)) ∧ (e = 60 → p < l.length ∧ ∀ s, decode (l.take (p + 1) ++ s) = .error (p, 60)) ∧ (e = 61 → p < l.length ∧ ∃ t, decode (l.take p) = .ok t) := by
  unfold decode at h
  cases h1 : run pgT l 0 with
  | error pe =>
    obtain ⟨p', e'⟩ := pe
    rw [h1] at h
    simp only [Except.error.injEq, Prod.mk.injEq] at h
    obtain ⟨rfl, rfl⟩ := h
    obtain ⟨j1, j2, j3, j4, j5⟩ := run_err hl h1
    refine ⟨by omega, by omega, fun h => ?_, fun h => ?_, fun h => by omega⟩
    · unfold decode
      have := j4 h
      rw [Nat.sub_zero] at this
      rw [this]
    · obtain ⟨k1, k2⟩ := j5 h
      refine ⟨by omega, fun s => ?_⟩
      unfold decode
      have := k2 s
      rw [Nat.sub_zero] at this
      rw [this]
  | ok x =>
    obtain ⟨t, q⟩ := x
    rw [h1] at h
    simp only at h
    by_cases hq : q < l.length
    · rw [if_pos hq] at h
      simp only [Except.error.injEq, Prod.mk.injEq] at h
      obtain ⟨rfl, rfl⟩ := h
      obtain ⟨-, -, j, -⟩ := run_ok hl h1
      refine ⟨by omega, by omega, fun h => by omega, fun h => by omega, fun _ => ⟨hq, t, ?_⟩⟩
      unfold decode
      have := j []
      rw [List.append_nil, Nat.sub_zero] at this
      rw [this]
      simp only
      rw [if_neg (by simp; omega)]
    · rw [if_neg hq] at h
      cases h
theorem encO_len {o : OpM} (h : rightO o) : (encO o).length ≤ 27 ∧ 3 ≤ (encO o).length := by
  obtain ⟨h1, -⟩ := h
  have a := form_len1 (n := o.key.size) (by omega)
  have b := form_len1 (n := o.value.size) (by omega)
  simp only [encO, List.length_cons, List.length_append, encT_len, a]
  split
  · rw [encT_len, b]; omega
  · simp; omega
theorem encOs_len {l : List OpM} (h : ∀ o ∈ l, rightO o) : (encOs l).length ≤ 27 * l.length := by
  induction l with
  | nil => simp [encOs]
  | cons o r ih =>
    have a := (encO_len (h o (by simp))).1
    have b := ih (fun o ho => h o (by simp [ho]))
    simp only [encOs, List.length_append, List.length_cons]
    omega
theorem body_len {t : TxM} (h : Right t) : (body t).length ≤ 464 ∧ 8 ≤ (body t).length := by
  obtain ⟨⟨h0, h1, h2, h3, h4, h5, h6⟩, hn, ho⟩ := h
  have a0 := form_len3 h0
  have a1 := form_len3 h1
  have a2 := form_len6 h2
  have a3 := form_len6 h3
  have a4 := form_len6 h4
  have a5 := form_len6 h5
  have a6 := form_len1 (n := t.f6.toNat) (by have := h6.2; omega)
  have a7 := form_len1 (n := t.ops.length) (by omega)
  have b := encOs_len ho
  have p0 := form_pos t.f0.toNat
  have p1 := form_pos t.f1.toNat
  have p2 := form_pos t.f2.toNat
  have p3 := form_pos t.f3.toNat
  have p4 := form_pos t.f4.toNat
  have p5 := form_pos t.f5.toNat
  simp only [body, heads, forms, List.length_append, Int.toNat_natCast, List.length_nil]
  omega
end Go.Proofs.YtfhaiklfbnfdlaaDoor
