/- What is proved: plain facts: what the document's Read reads is just a line of the form, and it is read as the transaction that it writes; no condition. -/
import Derived.Test.YtlldgibpajbabaaDoorNoOy
namespace Go.Proofs.YtlldgibpajbabaaDoor
open Go.RowKit

/-- A text up to a byte, and what stands behind that byte. -/
def cutc (c : UInt8) (s : List UInt8) : Option (List UInt8 × List UInt8) := if lead (fun b => b != c) s = s.length then none else some (s.take (lead (fun b => b != c) s), s.drop (lead (fun b => b != c) s + 1))
/-- A number behind its head, up to a byte. -/
def nstep (h : List UInt8) (c : UInt8) (s : List UInt8) : Option (Nat × List UInt8) :=
  if Lib.hasPrefix s h = false then none else match cutc c (s.drop h.length) with
  | none => none
  | some (a, r) => match numb a with
    | none => none
    | some n => some (n, r)
def opsX : Nat → List UInt8 → Option (List OpM)
  | _, [] => some []
  | 0, _ :: _ => none
  | n + 1, _ :: s => match opX (s.take (lead (fun b => b != 32) s)) with
    | none => none
    | some o => match opsX n (s.drop (lead (fun b => b != 32) s)) with
      | none => none
      | some l => some (o :: l)
/-- What stands behind the numbers: the status, the operations. -/
def tailX (s : List UInt8) : Option (Int × List OpM) :=
  let w := s.take (lead (fun b => b != 32) s)
  if w = wCommit then (match opsX s.length (s.drop (lead (fun b => b != 32) s)) with | none => none | some l => some (1, l))
  else if w = wAbort then (match opsX s.length (s.drop (lead (fun b => b != 32) s)) with | none => none | some l => some (0, l))
  else none
theorem cutc_app {c : UInt8} {a : List UInt8} (h : a.all (fun b => b != c) = true) (r : List UInt8) : cutc c (a ++ c :: r) = some (a, r) := by
  have e := lead_stop (f := fun b => b != c) (a := a) (r := c :: r) h (halt_cons (by simp) _)
  unfold cutc
  rw [e, if_neg (by simp), List.take_left]
  simp
theorem cutc_inv {c : UInt8} {s a r : List UInt8} (h : cutc c s = some (a, r)) : s = a ++ c :: r := by
  unfold cutc at h
  split at h
  · cases h
  · rename_i hc
    have hl := lead_le (fun b => b != c) s
    obtain ⟨b, hb, e⟩ := lead_at (f := fun b => b != c) (l := s) (by omega)
    have hb' : b = c := by simpa using hb
    subst hb'
    simp only [Option.some.injEq, Prod.mk.injEq] at h
    rw [h.1, h.2] at e
    exact e
theorem dec_no (n : Nat) {c : UInt8} (hc : dg c = false) : (Lib.decDigits n).all (fun b => b != c) = true := by
  rw [List.all_eq_true]
  intro b hb
  have := List.all_eq_true.1 (dec_dg n) b hb
  by_cases e : b = c
  · subst e
    rw [this] at hc
    cases hc
  · simp [e]
theorem nstep_app {n : Nat} (hn : n < 1000000000000000) {c : UInt8} (hc : dg c = false) (h r : List UInt8) : nstep h c (h ++ (Lib.decDigits n ++ c :: r)) = some (n, r) := by
  unfold nstep
  rw [has_app, if_neg (by decide), List.drop_left, cutc_app (dec_no n hc)]
  dsimp only
  rw [numb_dec hn]
theorem nstep_inv {h : List UInt8} {c : UInt8} {s r : List UInt8} {n : Nat} (e : nstep h c s = some (n, r)) : n < 1000000000000000 ∧ s = h ++ (Lib.decDigits n ++ c :: r) := by
  unfold nstep at e
  cases hp : Lib.hasPrefix s h with
  | false => rw [hp] at e; cases e
  | true =>
    rw [hp, if_neg (by decide)] at e
    have e1 := has_inv hp
    unfold Lib.trimPrefix at e1
    rw [if_pos hp] at e1
    cases hq : cutc c (s.drop h.length) with
    | none => rw [hq] at e; cases e
    | some q =>
      obtain ⟨a, r'⟩ := q
      rw [hq] at e
      dsimp only at e
      cases hm : numb a with
      | none => rw [hm] at e; cases e
      | some m =>
        rw [hm] at e
        simp only [Option.some.injEq, Prod.mk.injEq] at e
        obtain ⟨rfl, rfl⟩ := e
        obtain ⟨i1, i2⟩ := numb_inv hm
        refine ⟨i2, ?_⟩
        rw [i1, ← cutc_inv hq]
        exact e1
theorem wch_no {l : List UInt8} (h : l.all wch = true) : l.all (fun b => b != 32) = true := by
  rw [List.all_eq_true] at h ⊢
  intro b hb
  have := h b hb
  by_cases e : b = 32
  · subst e
    exact absurd this (by decide)
  · simp [e]
theorem opL_no (o : OpM) : (opL o).all (fun b => b != 32) = true := by
  have h1 : (letr o.kind != 32) = true := by
    unfold letr
    split
    · decide
    · split <;> decide
  unfold opL
  rw [List.all_append, List.all_append, List.all_append, wch_no (wd_wch _)]
  simp only [List.all_cons, List.all_nil, h1, show ((40 : UInt8) != 32) = true from by decide, show ((41 : UInt8) != 32) = true from by decide, Bool.and_true, Bool.true_and]
  split
  · rfl
  · rw [List.all_append]
    split
    · rw [wch_no (wd_wch _)]; decide
    · decide
theorem Rest.n {r : List UInt8} (h : Rest r) : Halt (fun b => b != 32) r := by
  rcases h with rfl | ⟨r', rfl⟩
  · intro b hb; simp at hb
  · exact halt_cons (by decide) _
theorem lead_rest (s : List UInt8) : Rest (s.drop (lead (fun b => b != 32) s)) := by
  by_cases h : lead (fun b => b != 32) s < s.length
  · obtain ⟨b, hb, e⟩ := lead_at h
    have hb' : b = 32 := by simpa using hb
    subst hb'
    refine .inr ⟨s.drop (lead (fun b => b != 32) s + 1), ?_⟩
    have hl := congrArg (List.drop (lead (fun b => b != 32) s)) e
    rw [hl]
    rw [List.drop_append_of_le_length (by rw [List.length_take]; omega), List.drop_of_length_le (by rw [List.length_take]; omega)]
    rfl
  · exact .inl (List.drop_of_length_le (by omega))
theorem opsX_app : ∀ (ops : List OpM) (n : Nat), (∀ o ∈ ops, FormO o) → ops.length ≤ n → opsX n (opsL ops) = some ops
  | [], n, _, _ => by cases n <;> rfl
  | o :: ops, 0, _, h => by simp at h
  | o :: ops, n + 1, hf, h => by
    have e := lead_stop (f := fun b => b != 32) (opL_no o) (opsL_rest ops).n
    rw [opsL_cons, List.cons_append, opsX, e, List.take_left, List.drop_left, opX_form (hf o List.mem_cons_self)]
    dsimp only
    rw [opsX_app ops n (fun x hx => hf x (List.mem_cons_of_mem _ hx)) (by simp at h; omega)]
theorem opsX_inv : ∀ (n : Nat) (s : List UInt8) (ops : List OpM), Rest s → opsX n s = some ops → (∀ o ∈ ops, FormO o) ∧ opsL ops = s
  | n, [], ops, _, h => by
    have h' : ops = [] := by cases n <;> (simp only [opsX, Option.some.injEq] at h; exact h.symm)
    subst h'
    exact ⟨by simp, rfl⟩
  | 0, b :: s, ops, _, h => by simp [opsX] at h
  | n + 1, b :: s, ops, hr, h => by
    have hb : b = 32 := by
      rcases hr with hr | ⟨r, hr⟩
      · cases hr
      · simp only [List.cons.injEq] at hr; exact hr.1
    subst hb
    rw [opsX] at h
    cases ho : opX (s.take (lead (fun b => b != 32) s)) with
    | none => rw [ho] at h; cases h
    | some o =>
      rw [ho] at h
      dsimp only at h
      cases hl : opsX n (s.drop (lead (fun b => b != 32) s)) with
      | none => rw [hl] at h; cases h
      | some l =>
        rw [hl] at h
        simp only [Option.some.injEq] at h
        subst h
        obtain ⟨i1, i2⟩ := opsX_inv n _ l (lead_rest s) hl
        obtain ⟨j1, j2⟩ := form_opX ho
        refine ⟨fun x hx => ?_, ?_⟩
        · rcases List.mem_cons.1 hx with rfl | hx
          · exact j1
          · exact i1 x hx
        · rw [opsL_cons, i2, j2, List.cons_append, List.take_append_drop]
theorem tailX_app {st : Int} (h : st = 0 ∨ st = 1) {ops : List OpM} (ho : ∀ o ∈ ops, FormO o) : tailX (stw st ++ opsL ops) = some (st, ops) := by
  have hw : (stw st).all (fun b => b != 32) = true := by rcases h with rfl | rfl <;> decide
  have e := lead_stop (f := fun b => b != 32) hw (opsL_rest ops).n
  have hn : ops.length ≤ (stw st ++ opsL ops).length := by
    have := opsL_ge ops
    rw [List.length_append]
    omega
  unfold tailX
  dsimp only
  rw [e, List.take_left, List.drop_left, opsX_app ops _ ho hn]
  rcases h with rfl | rfl
  · rw [show stw 0 = wAbort from rfl, if_neg (by decide), if_pos rfl]
  · rw [show stw 1 = wCommit from rfl, if_pos rfl]
theorem tailX_inv {s : List UInt8} {st : Int} {ops : List OpM} (h : tailX s = some (st, ops)) : (st = 0 ∨ st = 1) ∧ (∀ o ∈ ops, FormO o) ∧ s = stw st ++ opsL ops := by
  unfold tailX at h
  dsimp only at h
  have hr := lead_rest s
  have hs := List.take_append_drop (lead (fun b => b != 32) s) s
  generalize s.take (lead (fun b => b != 32) s) = a at *
  generalize s.drop (lead (fun b => b != 32) s) = r at *
  cases hl : opsX s.length r with
  | none =>
    rw [hl] at h
    split at h
    · cases h
    · split at h <;> cases h
  | some l =>
    rw [hl] at h
    obtain ⟨i1, i2⟩ := opsX_inv _ _ _ hr hl
    by_cases c1 : a = wCommit
    · rw [if_pos c1] at h
      simp only [Option.some.injEq, Prod.mk.injEq] at h
      obtain ⟨rfl, rfl⟩ := h
      exact ⟨.inr rfl, i1, by rw [i2, ← hs, c1]; rfl⟩
    · rw [if_neg c1] at h
      by_cases c2 : a = wAbort
      · rw [if_pos c2] at h
        simp only [Option.some.injEq, Prod.mk.injEq] at h
        obtain ⟨rfl, rfl⟩ := h
        exact ⟨.inl rfl, i1, by rw [i2, ← hs, c2]; rfl⟩
      · rw [if_neg c2] at h; cases h
/-- What stands ahead of the six numbers, and the byte behind each. -/
def hd6 : List (List UInt8 × UInt8) := [([115], 32), ([113], 32), ([116], 45), ([], 32), ([99], 45), ([], 32)]
def numsX : List (List UInt8 × UInt8) → List Nat → List UInt8 → Option (List Nat × List UInt8)
  | [], acc, s => some (acc, s)
  | (h, c) :: hs, acc, s => match nstep h c s with
    | none => none
    | some (n, r) => numsX hs (acc ++ [n]) r
def mkT (ns : List Nat) (st : Int) (ops : List OpM) : TxM := ⟨(ns.getD 0 0 : Nat), (ns.getD 1 0 : Nat), (ns.getD 2 0 : Nat), (ns.getD 3 0 : Nat), (ns.getD 4 0 : Nat), (ns.getD 5 0 : Nat), st, ops⟩
/-- What the document's Read reads. -/
def rdX (l : List UInt8) : Option TxM := match numsX hd6 [] l with
  | none => none
  | some (ns, s) => match tailX s with
    | none => none
    | some (st, ops) => some (mkT ns st ops)
theorem line_dec (n0 n1 n2 n3 n4 n5 : Nat) (st : Int) (ops : List OpM) : line ⟨n0, n1, n2, n3, n4, n5, st, ops⟩ = [115] ++ (Lib.decDigits n0 ++ 32 :: ([113] ++ (Lib.decDigits n1 ++ 32 :: ([116] ++ (Lib.decDigits n2 ++ 45 :: ([] ++ (Lib.decDigits n3 ++ 32 :: ([99] ++ (Lib.decDigits n4 ++ 45 :: ([] ++ (Lib.decDigits n5 ++ 32 :: (stw st ++ opsL ops)))))))))))) := by
  rw [line_eq]
  unfold numL
  simp only [itoa_nat]
  simp
theorem rdX_form {t : TxM} (h : Form t) : rdX (line t) = some t := by
  obtain ⟨f0, f1, f2, f3, f4, f5, f6, ops⟩ := t
  obtain ⟨a0, a1, a2, a3, a4, a5, a6, ho⟩ := h
  simp only at a0 a1 a2 a3 a4 a5 a6 ho
  obtain ⟨n0, rfl, b0⟩ := nat_of a0
  obtain ⟨n1, rfl, b1⟩ := nat_of a1
  obtain ⟨n2, rfl, b2⟩ := nat_of a2
  obtain ⟨n3, rfl, b3⟩ := nat_of a3
  obtain ⟨n4, rfl, b4⟩ := nat_of a4
  obtain ⟨n5, rfl, b5⟩ := nat_of a5
  have d32 : dg 32 = false := by decide
  have d45 : dg 45 = false := by decide
  have e : numsX hd6 [] (line ⟨n0, n1, n2, n3, n4, n5, f6, ops⟩) = some ([n0, n1, n2, n3, n4, n5], stw f6 ++ opsL ops) := by
    rw [line_dec, hd6, numsX, nstep_app b0 d32]
    dsimp only
    rw [numsX, nstep_app b1 d32]
    dsimp only
    rw [numsX, nstep_app b2 d45]
    dsimp only
    rw [numsX, nstep_app b3 d32]
    dsimp only
    rw [numsX, nstep_app b4 d45]
    dsimp only
    rw [numsX, nstep_app b5 d32]
    rfl
  unfold rdX
  rw [e]
  dsimp only
  rw [tailX_app a6 ho]
  rfl
theorem numsX_cons {h : List UInt8} {c : UInt8} {hs : List (List UInt8 × UInt8)} {acc ns : List Nat} {s r : List UInt8} (e : numsX ((h, c) :: hs) acc s = some (ns, r)) : ∃ n s', n < 1000000000000000 ∧ s = h ++ (Lib.decDigits n ++ c :: s') ∧ numsX hs (acc ++ [n]) s' = some (ns, r) := by
  rw [numsX] at e
  cases hn : nstep h c s with
  | none => rw [hn] at e; cases e
  | some q =>
    obtain ⟨n, s'⟩ := q
    rw [hn] at e
    obtain ⟨i1, i2⟩ := nstep_inv hn
    exact ⟨n, s', i1, i2, e⟩
theorem form_rdX {l : List UInt8} {t : TxM} (h : rdX l = some t) : Form t ∧ line t = l := by
  unfold rdX at h
  cases hn : numsX hd6 [] l with
  | none => rw [hn] at h; cases h
  | some q =>
    obtain ⟨ns, s⟩ := q
    rw [hn] at h
    dsimp only at h
    cases ht : tailX s with
    | none => rw [ht] at h; cases h
    | some p =>
      obtain ⟨st, ops⟩ := p
      rw [ht] at h
      simp only [Option.some.injEq] at h
      subst h
      obtain ⟨t1, t2, t3⟩ := tailX_inv ht
      obtain ⟨n0, s0, b0, e0, hn⟩ := numsX_cons hn
      obtain ⟨n1, s1, b1, e1, hn⟩ := numsX_cons hn
      obtain ⟨n2, s2, b2, e2, hn⟩ := numsX_cons hn
      obtain ⟨n3, s3, b3, e3, hn⟩ := numsX_cons hn
      obtain ⟨n4, s4, b4, e4, hn⟩ := numsX_cons hn
      obtain ⟨n5, s5, b5, e5, hn⟩ := numsX_cons hn
      simp only [numsX, List.nil_append, List.cons_append, Option.some.injEq, Prod.mk.injEq] at hn
      obtain ⟨rfl, rfl⟩ := hn
      refine ⟨⟨⟨by simp [mkT], by simp [mkT]; omega⟩, ⟨by simp [mkT], by simp [mkT]; omega⟩, ⟨by simp [mkT], by simp [mkT]; omega⟩, ⟨by simp [mkT], by simp [mkT]; omega⟩, ⟨by simp [mkT], by simp [mkT]; omega⟩, ⟨by simp [mkT], by simp [mkT]; omega⟩, t1, t2⟩, ?_⟩
      show line ⟨n0, n1, n2, n3, n4, n5, st, ops⟩ = l
      rw [line_dec, e0, e1, e2, e3, e4, e5, t3]
/-- Both read alike: what Parse answers. -/
theorem parse_doc (l : List UInt8) : parseT l = match rdX l with
    | none => (tz0, 210)
    | some t => if valid t = 0 then (t, 0) else (tz0, valid t) := by
  cases h : rdX l with
  | some t =>
    obtain ⟨h1, rfl⟩ := form_rdX h
    exact form_parse h1
  | none =>
    have h2 : (readT l).2 = false := by
      cases e : (readT l).2 with
      | false => rfl
      | true =>
        obtain ⟨t, ht, rfl⟩ := read_form e
        rw [rdX_form ht] at h
        cases h
    unfold parseT
    rw [if_pos h2]
end Go.Proofs.YtlldgibpajbabaaDoor
