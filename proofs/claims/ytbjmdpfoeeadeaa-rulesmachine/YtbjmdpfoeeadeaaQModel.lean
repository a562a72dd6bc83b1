/- What is proved: plain facts on a row's bytes: they are read back, what is read is its one form, and reading looks at no more than 561 bytes; no condition. -/
import Derived.Test.YtbjmdpfoeeadeaaRModel
namespace Go.Proofs.Ytbjmdpfoeeadeaa.Rw
open Go.RowKit

/-- A row: its six numbers, its body. -/
structure RwM where
  kind : Int
  time : Int
  seq : Int
  index : Int
  frm : Int
  til : Int
  body : ByteArray
def r0 : RwM := ⟨0, 0, 0, 0, 0, 0, .empty⟩
def rightR (r : RwM) : Prop := (1 ≤ r.kind ∧ r.kind ≤ 3) ∧ inB r.time 1099511627776 ∧ inB r.seq 1048575 ∧ inB r.index 4095 ∧ inB r.frm 1099511627776 ∧ inB r.til 1099511627776 ∧ r.body.size ≤ 512
instance (r : RwM) : Decidable (rightR r) := by unfold rightR; infer_instance
def bytesR (r : RwM) : List Int := r.kind :: (form r.time.toNat ++ (form r.seq.toNat ++ (form r.index.toNat ++ (form r.frm.toNat ++ (form r.til.toNat ++ encT r.body)))))
def pgR (k : Int) : Pg RwM := .ask (.nm 1099511627776) fun a => .ask (.nm 1048575) fun b => .ask (.nm 4095) fun c => .ask (.nm 1099511627776) fun d => .ask (.nm 1099511627776) fun e => .ask (.tx 0 512) fun f => .ret ⟨k, a.1, b.1, c.1, d.1, e.1, strOfNums f.2⟩
/-- What Decode answers: the row and how many bytes it has, or the place and the error. -/
def dec9 (l : List Int) : Except (Nat × Int) (RwM × Nat) := match l with
  | [] => .error (0, 51)
  | x :: r => if 1 ≤ x ∧ x ≤ 3 then run (pgR x) r 1 else .error (0, 90)

theorem byts_bytesR {r : RwM} (h : rightR r) : Byts (bytesR r) := by
  have := h.1
  exact Byts.cons (by omega) ((byts_form _).append ((byts_form _).append ((byts_form _).append ((byts_form _).append ((byts_form _).append (byts_encT _))))))
theorem bytesR_len {r : RwM} (h : rightR r) : 7 ≤ (bytesR r).length ∧ (bytesR r).length ≤ 561 := by
  obtain ⟨-, h1, h2, h3, h4, h5, h6⟩ := h
  unfold inB at h1 h2 h3 h4 h5
  have p1 := form_pos r.time.toNat
  have p2 := form_pos r.seq.toNat
  have p3 := form_pos r.index.toNat
  have p4 := form_pos r.frm.toNat
  have p5 := form_pos r.til.toNat
  have p6 := form_pos r.body.size
  have q1 : (form r.time.toNat).length ≤ 8 := form_le (by decide) (by omega)
  have q2 : (form r.seq.toNat).length ≤ 8 := form_le (by decide) (by omega)
  have q3 : (form r.index.toNat).length ≤ 8 := form_le (by decide) (by omega)
  have q4 : (form r.frm.toNat).length ≤ 8 := form_le (by decide) (by omega)
  have q5 : (form r.til.toNat).length ≤ 8 := form_le (by decide) (by omega)
  have q6 : (form r.body.size).length ≤ 8 := form_le (by decide) (by omega)
  simp only [bytesR, List.length_cons, List.length_append, encT_len]
  omega
theorem run_row {r : RwM} (h : rightR r) (s : List Int) (p : Nat) : run (pgR r.kind) ((bytesR r).drop 1 ++ s) p = .ok (r, p + (bytesR r).length - 1) := by
  obtain ⟨-, h1, h2, h3, h4, h5, h6⟩ := h
  obtain ⟨kind, time, seq, index, frm, til, body⟩ := r
  simp only at h1 h2 h3 h4 h5 h6
  unfold inB at h1 h2 h3 h4 h5
  unfold pgR bytesR
  simp only [List.drop_succ_cons, List.drop_zero, List.append_assoc]
  rw [run_ask_ok (enc_nm (by omega) (by decide) _), drop_self_append, run_ask_ok (enc_nm (by omega) (by decide) _), drop_self_append, run_ask_ok (enc_nm (by omega) (by decide) _), drop_self_append,
    run_ask_ok (enc_nm (by omega) (by decide) _), drop_self_append, run_ask_ok (enc_nm (by omega) (by decide) _), drop_self_append, run_ask_ok (enc_tx (by omega) (by omega) (by decide) _), drop_self_append]
  simp only [run, Except.ok.injEq, Prod.mk.injEq, RwM.mk.injEq, strOf_nums, and_true, true_and, List.length_append, List.length_cons]
  refine ⟨⟨by omega, by omega, by omega, by omega, by omega⟩, by omega⟩
theorem dec9_bytes {r : RwM} (h : rightR r) (s : List Int) : dec9 (bytesR r ++ s) = .ok (r, (bytesR r).length) := by
  have e := run_row h s 1
  have hk := h.1
  have hl := bytesR_len h
  rw [show 1 + (bytesR r).length - 1 = (bytesR r).length by omega] at e
  rw [← e]
  show (if 1 ≤ r.kind ∧ r.kind ≤ 3 then _ else _) = _
  rw [if_pos hk]
  rfl
theorem one_row {k : Int} {l : List Int} {p q : Nat} {r : RwM} (hl : Byts l) (hk : 1 ≤ k ∧ k ≤ 3) (h : run (pgR k) l p = .ok (r, q)) : rightR r ∧ bytesR r = k :: l.take (q - p) ∧ p + 6 ≤ q ∧ q ≤ p + l.length := by
  obtain ⟨z1, z2, -, -⟩ := run_ok hl h
  unfold pgR at h
  rcases h1 : rd (.nm 1099511627776) l with e | ⟨⟨a, a'⟩, n1⟩
  · rw [run_ask_err h1] at h; cases h
  rw [run_ask_ok h1] at h
  obtain ⟨a1, a2⟩ := one_nm hl h1
  obtain ⟨m1, -⟩ := rd_ok hl h1
  rcases h2 : rd (.nm 1048575) (l.drop n1) with e | ⟨⟨b, b'⟩, n2⟩
  · rw [run_ask_err h2] at h; cases h
  rw [run_ask_ok h2] at h
  have hl2 := hl.drop n1
  obtain ⟨b1, b2⟩ := one_nm hl2 h2
  obtain ⟨m2, -⟩ := rd_ok hl2 h2
  rcases h3 : rd (.nm 4095) ((l.drop n1).drop n2) with e | ⟨⟨c, c'⟩, n3⟩
  · rw [run_ask_err h3] at h; cases h
  rw [run_ask_ok h3] at h
  have hl3 := hl2.drop n2
  obtain ⟨c1, c2⟩ := one_nm hl3 h3
  obtain ⟨m3, -⟩ := rd_ok hl3 h3
  rcases h4 : rd (.nm 1099511627776) (((l.drop n1).drop n2).drop n3) with e | ⟨⟨d, d'⟩, n4⟩
  · rw [run_ask_err h4] at h; cases h
  rw [run_ask_ok h4] at h
  have hl4 := hl3.drop n3
  obtain ⟨d1, d2⟩ := one_nm hl4 h4
  obtain ⟨m4, -⟩ := rd_ok hl4 h4
  rcases h5 : rd (.nm 1099511627776) ((((l.drop n1).drop n2).drop n3).drop n4) with e | ⟨⟨e, e'⟩, n5⟩
  · rw [run_ask_err h5] at h; cases h
  rw [run_ask_ok h5] at h
  have hl5 := hl4.drop n4
  obtain ⟨e1, e2⟩ := one_nm hl5 h5
  obtain ⟨m5, -⟩ := rd_ok hl5 h5
  rcases h6 : rd (.tx 0 512) (((((l.drop n1).drop n2).drop n3).drop n4).drop n5) with e | ⟨⟨f, f'⟩, n6⟩
  · rw [run_ask_err h6] at h; cases h
  rw [run_ask_ok h6] at h
  have hl6 := hl5.drop n5
  obtain ⟨f1, f2, f3, f4, f5⟩ := one_tx hl6 h6
  obtain ⟨m6, -⟩ := rd_ok hl6 h6
  simp only [run, Except.ok.injEq, Prod.mk.injEq] at h
  obtain ⟨rfl, rfl⟩ := h
  refine ⟨⟨hk, ⟨by simp, by simp; omega⟩, ⟨by simp, by simp; omega⟩, ⟨by simp, by simp; omega⟩, ⟨by simp, by simp; omega⟩, ⟨by simp, by simp; omega⟩, by simp only [strOfNums_size]; omega⟩, ?_, by omega, z2⟩
  simp only [bytesR, Int.toNat_natCast]
  rw [a2, b2, c2, d2, e2, f5]
  congr 1
  rw [show p + n1 + n2 + n3 + n4 + n5 + n6 - p = n1 + (n2 + (n3 + (n4 + (n5 + n6)))) by omega]
  rw [List.take_add, List.take_add (l := l.drop n1), List.take_add (l := (l.drop n1).drop n2), List.take_add (l := ((l.drop n1).drop n2).drop n3), List.take_add (l := (((l.drop n1).drop n2).drop n3).drop n4)]
theorem dec9_one {l : List Int} {n : Nat} {r : RwM} (hl : Byts l) (h : dec9 l = .ok (r, n)) : rightR r ∧ bytesR r = l.take n ∧ 7 ≤ n ∧ n ≤ l.length := by
  cases l with
  | nil => cases h
  | cons x l =>
    simp only [dec9] at h
    by_cases hx : 1 ≤ x ∧ x ≤ 3
    · rw [if_pos hx] at h
      obtain ⟨a, b, c, d⟩ := one_row (fun y hy => hl y (by simp [hy])) hx h
      refine ⟨a, ?_, by omega, by simp only [List.length_cons]; omega⟩
      obtain ⟨n, rfl⟩ : ∃ m, n = m + 1 := ⟨n - 1, by omega⟩
      rw [b, List.take_succ_cons, Nat.add_sub_cancel]
    · rw [if_neg hx] at h
      cases h
theorem dec9_err {l : List Int} {p : Nat} {z : Int} (hl : Byts l) (h : dec9 l = .error (p, z)) : p ≤ l.length ∧ z ≠ 0 := by
  cases l with
  | nil =>
    cases h
    exact ⟨Nat.le_refl _, by decide⟩
  | cons x l =>
    simp only [dec9] at h
    by_cases hx : 1 ≤ x ∧ x ≤ 3
    · rw [if_pos hx] at h
      obtain ⟨a, b, c, -⟩ := run_err (fun y hy => hl y (by simp [hy])) h
      exact ⟨by simp only [List.length_cons]; omega, by omega⟩
    · rw [if_neg hx] at h
      cases h
      exact ⟨Nat.zero_le _, by decide⟩

/-! Reading looks at the beginning alone. -/
theorem num_take {k : Nat} : ∀ {m : Nat} (r : List Int), k ≤ m → num k (r.take m) = num k r := by
  induction k with
  | zero => intro m r _; rfl
  | succ k ih =>
    intro m r hm
    obtain ⟨m, rfl⟩ : ∃ q, m = q + 1 := ⟨m - 1, by omega⟩
    cases r with
    | nil => rfl
    | cons x r =>
      simp only [List.take_succ_cons, num]
      rw [ih r (by omega)]
def sz : Item → Nat
  | .nm _ => 8
  | .tg => 1
  | .tx _ hi => 8 + hi
theorem rd_take {I : Item} {m : Nat} {r : List Int} (hr : Byts r) (h : sz I ≤ m) : rd I (r.take m) = rd I r := by
  cases I with
  | nm most =>
    simp only [rd]
    rw [num_take (k := 8) r h]
  | tg =>
    obtain ⟨m, rfl⟩ : ∃ q, m = q + 1 := ⟨m - 1, by simp only [sz] at h; omega⟩
    cases r with
    | nil => rfl
    | cons x r => rfl
  | tx lo hi =>
    simp only [sz] at h
    simp only [rd]
    rw [num_take (k := 8) r (by omega)]
    by_cases h0 : (num 8 r).2.2 = 0
    · have hc : ¬ (num 8 r).2.2 ≠ 0 := fun e => e h0
      rw [if_neg hc, if_neg hc]
      obtain ⟨-, o2, o3, o4, -, -⟩ := num_one (by decide) hr h0
      by_cases h1 : (num 8 r).1 < lo ∨ hi < (num 8 r).1
      · rw [if_pos h1, if_pos h1]
      · rw [if_neg h1, if_neg h1]
        by_cases h2 : r.length < (num 8 r).2.1 + (num 8 r).1
        · rw [if_pos h2, if_pos (by rw [List.length_take]; omega)]
        · rw [if_neg h2, if_neg (by rw [List.length_take]; omega), List.drop_take, List.take_take, Nat.min_eq_left (by omega)]
    · rw [if_pos h0, if_pos h0]
theorem rd_len {I : Item} {r : List Int} {x : Nat × List Int} {n : Nat} (hr : Byts r) (h : rd I r = .ok (x, n)) : n ≤ sz I := by
  cases I with
  | nm most =>
    simp only [rd] at h
    by_cases h0 : (num 8 r).2.2 = 0
    · rw [if_neg (by simpa using h0)] at h
      obtain ⟨-, o2, o3, o4, -, -⟩ := num_one (by decide) hr h0
      by_cases h1 : most < (num 8 r).1
      · rw [if_pos h1] at h; cases h
      · rw [if_neg h1] at h
        simp only [Except.ok.injEq, Prod.mk.injEq] at h
        obtain ⟨-, rfl⟩ := h
        exact o4
    · rw [if_pos h0] at h; cases h
  | tg =>
    cases r with
    | nil => cases h
    | cons y r =>
      simp only [rd] at h
      by_cases h1 : 1 ≤ y ∧ y ≤ 4
      · rw [if_pos h1] at h
        simp only [Except.ok.injEq, Prod.mk.injEq] at h
        obtain ⟨-, rfl⟩ := h
        exact Nat.le_refl _
      · rw [if_neg h1] at h; cases h
  | tx lo hi =>
    simp only [rd] at h
    by_cases h0 : (num 8 r).2.2 = 0
    · rw [if_neg (by simpa using h0)] at h
      obtain ⟨-, o2, o3, o4, -, -⟩ := num_one (by decide) hr h0
      by_cases h1 : (num 8 r).1 < lo ∨ hi < (num 8 r).1
      · rw [if_pos h1] at h; cases h
      · rw [if_neg h1] at h
        by_cases h2 : r.length < (num 8 r).2.1 + (num 8 r).1
        · rw [if_pos h2] at h; cases h
        · rw [if_neg h2] at h
          simp only [Except.ok.injEq, Prod.mk.injEq] at h
          obtain ⟨-, rfl⟩ := h
          simp only [sz]
          omega
    · rw [if_pos h0] at h; cases h
/-- Reading by g looks at no more than m bytes. -/
def Fit {α : Type} : Pg α → Nat → Prop
  | .ret _, _ => True
  | .ask I k, m => ∃ m', sz I + m' ≤ m ∧ ∀ x, Fit (k x) m'
theorem Fit.mono {α : Type} {g : Pg α} {m m' : Nat} (h : Fit g m) (hm : m ≤ m') : Fit g m' := by
  cases g with
  | ret a => trivial
  | ask I k =>
    obtain ⟨q, h1, h2⟩ := h
    exact ⟨q, by omega, h2⟩
theorem run_take {α : Type} {g : Pg α} : ∀ {m : Nat} {r : List Int} {p : Nat}, Byts r → Fit g m → run g (r.take m) p = run g r p := by
  induction g with
  | ret a => intro m r p _ _; rfl
  | ask I k ih =>
    intro m r p hr hf
    obtain ⟨q, h1, h2⟩ := hf
    have e := rd_take (I := I) (m := m) hr (by omega)
    rcases h : rd I r with z | ⟨x, n⟩
    · rw [run_ask_err h, run_ask_err (e.trans h)]
    · rw [run_ask_ok h, run_ask_ok (e.trans h), List.drop_take]
      have := rd_len hr h
      exact ih x (hr.drop n) ((h2 x).mono (by omega))
theorem fit_row (k : Int) : Fit (pgR k) 560 :=
  ⟨552, by decide, fun _ => ⟨544, by decide, fun _ => ⟨536, by decide, fun _ => ⟨528, by decide, fun _ => ⟨520, by decide, fun _ => ⟨0, by decide, fun _ => trivial⟩⟩⟩⟩⟩⟩
theorem dec9_take {l : List Int} (hl : Byts l) : dec9 (l.take 561) = dec9 l := by
  cases l with
  | nil => rfl
  | cons x l =>
    simp only [List.take_succ_cons, dec9]
    rw [run_take (fun y hy => hl y (by simp [hy])) (fit_row x)]
end Go.Proofs.Ytbjmdpfoeeadeaa.Rw
