/- What is proved: plain facts: the log of any machine: ends rise, starts lie ahead of ends, no two times are one, sessions are numbered; no condition. -/
import Derived.Test.YtmlefbpdlgnkgabKEmt
namespace Go.Proofs.Ytmlefbpdlgnkgab

/-- How many of a session; is it one's own? -/
def nOf (l : List TxM) (j : Int) : Nat := l.countP fun t => decide (t.f0 = j)
theorem nOf_snoc (l : List TxM) (t : TxM) (j : Int) : nOf (l ++ [t]) j = nOf l j + if t.f0 = j then 1 else 0 := by
  unfold nOf
  rw [List.countP_append]
  simp [List.countP_cons]
/-- A list of finished transactions that is right, by the clock c, of N sessions. -/
structure Lg (N : Nat) (c : Int) (l : List TxM) : Prop where
  one : ∀ t ∈ l, 0 ≤ t.f4 ∧ t.f4 < t.f2 ∧ t.f2 < t.f3 ∧ t.f3 = t.f5 ∧ t.f3 ≤ c ∧ 0 ≤ t.f0 ∧ t.f0 < N
  seq : ∀ (i : Nat) (t : TxM), l[i]? = some t → t.f1 = ((nOf (l.take i) t.f0 : Nat) : Int)
  two : ∀ (k i : Nat) (u t : TxM), k < i → l[k]? = some u → l[i]? = some t → u.f3 < t.f3 ∧ u.f2 ≠ t.f2 ∧ u.f3 ≠ t.f2 ∧ (u.f0 = t.f0 → u.f3 < t.f2)
/-- What stands of any machine's log. -/
structure Lm (N : Nat) (M : Mm) : Prop where
  len : M.ses.length = N
  lg : Lg N M.clock M.log
  c0 : 0 ≤ M.clock
  act : ∀ j a, (M.at j).act = some a → a.t.f0 = (j : Int) ∧ 0 ≤ a.t.f4 ∧ a.t.f4 < a.t.f2 ∧ a.t.f2 ≤ M.clock ∧ a.t.f1 = ((nOf M.log (j : Int) : Nat) : Int) ∧ ∀ t ∈ M.log, t.f2 ≠ a.t.f2 ∧ t.f3 ≠ a.t.f2 ∧ (t.f0 = (j : Int) → t.f3 < a.t.f2)
  dif : ∀ j q a b, j ≠ q → (M.at j).act = some a → (M.at q).act = some b → a.t.f2 ≠ b.t.f2
  bg : ∀ j, j < N → (M.at j).begun = ((nOf M.log (j : Int) : Nat) : Int) + if (M.at j).act.isSome = true then 1 else 0
theorem Lg.mono {N : Nat} {c c' : Int} {l : List TxM} (h : Lg N c l) (hc : c ≤ c') : Lg N c' l := ⟨fun t ht => by
  obtain ⟨a1, a2, a3, a4, a5, a6⟩ := h.one t ht
  exact ⟨a1, a2, a3, a4, by omega, a6⟩, h.seq, h.two⟩
theorem Lm.new (N : Nat) (fl : Int) : Lm N (newM N fl) := ⟨by simp [newM], ⟨fun t ht => (by cases ht), fun i t h => (by simp [newM] at h), fun k i u t _ h => (by simp [newM] at h)⟩, Int.le_refl _, fun j a h => (by rw [at_new] at h; cases h), fun j q a b _ h => (by rw [at_new] at h; cases h), fun j _ => by rw [at_new]; rfl⟩
theorem Lm.tick {N : Nat} {M : Mm} (h : Lm N M) {c : Int} (hc : M.clock ≤ c) : Lm N (M.tick c) := ⟨h.len, h.lg.mono hc, Int.le_trans h.c0 hc, fun j a ha => by
  obtain ⟨a1, a2, a3, a4, a5, a6⟩ := h.act j a ha
  exact ⟨a1, a2, a3, Int.le_trans a4 hc, a5, a6⟩, h.dif, h.bg⟩
/-- A begin at a time that is above all. -/
theorem Lm.begin {N : Nat} {M : Mm} (h : Lm N M) {i : Nat} {c : Int} (hi : i < N) (hn : (M.at i).act = none) (hc : M.clock < c) : Lm N (beginM (M.tick c) i M.clock) := by
  have hil : i < (M.tick c).ses.length := by show i < M.ses.length; rw [h.len]; exact hi
  have e : ∀ j, (beginM (M.tick c) i M.clock).at j = if i = j then ⟨(M.at i).begun + 1, some ⟨⟨i, (M.at i).begun, c, 0, M.clock, 0, 0, []⟩, []⟩⟩ else M.at j := fun j => at_begin hil
  have hb := h.bg i hi
  rw [hn] at hb
  simp only [Option.isSome_none, Bool.false_eq_true, if_false] at hb
  refine ⟨by show (M.ses.set i _).length = N; rw [List.length_set]; exact h.len, h.lg.mono (Int.le_of_lt hc), Int.le_trans h.c0 (Int.le_of_lt hc), fun j a ha => ?_, fun j q a b hjq ha hb => ?_, fun j hj => ?_⟩
  · rw [e] at ha
    split at ha
    · rename_i hij
      subst hij
      cases ha
      refine ⟨rfl, h.c0, hc, Int.le_refl _, by show (M.at i).begun = _; rw [hb]; simp; rfl, fun t ht => ?_⟩
      obtain ⟨a1, a2, a3, a4, a5, a6⟩ := h.lg.one t ht
      show t.f2 ≠ c ∧ t.f3 ≠ c ∧ (_ → t.f3 < c)
      exact ⟨by omega, by omega, fun _ => by omega⟩
    · obtain ⟨a1, a2, a3, a4, a5, a6⟩ := h.act j a ha
      exact ⟨a1, a2, a3, Int.le_trans a4 (Int.le_of_lt hc), a5, a6⟩
  · rw [e] at ha hb
    split at ha
    · cases ha
      split at hb
      · rename_i h1 h2; exact absurd (h1.symm.trans h2) hjq
      · obtain ⟨a1, a2, a3, a4, -⟩ := h.act q b hb
        show c ≠ b.t.f2
        omega
    · split at hb
      · cases hb
        obtain ⟨a1, a2, a3, a4, -⟩ := h.act j a ha
        show a.t.f2 ≠ c
        omega
      · exact h.dif j q a b hjq ha hb
  · rw [e]
    split
    · rename_i hij
      subst hij
      show (M.at i).begun + 1 = _
      rw [hb]
      simp
      rfl
    · exact h.bg j hj
theorem Lm.oper {N : Nat} {M : Mm} (h : Lm N M) {i : Nat} {a : Ac} (ha : (M.at i).act = some a) (o : OpM) : Lm N (operM M i a o) := by
  have e : ∀ j, (operM M i a o).at j = if i = j then ⟨(M.at i).begun, some (addO a M.clock o)⟩ else M.at j := fun j => at_oper (at_lt ha)
  refine ⟨by show (M.ses.set i _).length = N; rw [List.length_set]; exact h.len, h.lg, h.c0, fun j b hb => ?_, fun j q x y hjq hx hy => ?_, fun j hj => ?_⟩
  · rw [e] at hb
    split at hb
    · rename_i hij
      subst hij
      cases hb
      exact h.act i a ha
    · exact h.act j b hb
  · rw [e] at hx hy
    split at hx
    · rename_i h1
      cases hx
      split at hy
      · rename_i h2; exact absurd (h1.symm.trans h2) hjq
      · exact h.dif i q a y (by rw [h1]; exact hjq) ha hy
    · split at hy
      · rename_i h2
        cases hy
        exact h.dif j i x a (by rw [h2]; exact hjq) hx ha
      · exact h.dif j q x y hjq hx hy
  · rw [e]
    have := h.bg j hj
    split
    · rename_i hij
      subst hij
      rw [ha] at this
      exact this
    · exact this
/-- A transaction is finished now. -/
theorem Lm.fin {N : Nat} {M : Mm} (h : Lm N M) {i : Nat} {a : Ac} (ha : (M.at i).act = some a) (hs : a.t.f2 < M.clock) (hl : ∀ t ∈ M.log, t.f3 < M.clock) (ho : ∀ j b, (M.at j).act = some b → b.t.f2 < M.clock) (st : Int) (A : List En) : Lm N (finM { M with A := A } i a st) := by
  have hil := at_lt ha
  have hN : i < N := by rw [← h.len]; exact hil
  have e : ∀ j, (finM { M with A := A } i a st).at j = if i = j then ⟨(M.at i).begun, none⟩ else M.at j := fun j => at_fin (M := { M with A := A }) hil
  obtain ⟨a1, a2, a3, a4, a5, a6⟩ := h.act i a ha
  have hlog : (finM { M with A := A } i a st).log = M.log ++ [endT a.t M.clock st] := rfl
  refine ⟨by show (M.ses.set i _).length = N; rw [List.length_set]; exact h.len, ?_, h.c0, fun j b hb => ?_, fun j q x y hjq hx hy => ?_, fun j hj => ?_⟩
  · show Lg N M.clock (M.log ++ [endT a.t M.clock st])
    refine ⟨fun t ht => ?_, fun q t hq => ?_, fun k q u t hkq hk hq => ?_⟩
    · rcases List.mem_append.1 ht with ht | ht
      · exact h.lg.one t ht
      · rw [List.mem_singleton.1 ht]
        show 0 ≤ a.t.f4 ∧ a.t.f4 < a.t.f2 ∧ a.t.f2 < M.clock ∧ M.clock = M.clock ∧ M.clock ≤ M.clock ∧ 0 ≤ a.t.f0 ∧ a.t.f0 < N
        omega
    · rcases Nat.lt_or_ge q M.log.length with hlt | hge
      · rw [List.getElem?_append_left hlt] at hq
        rw [List.take_append_of_le_length (Nat.le_of_lt hlt)]
        exact h.lg.seq q t hq
      · rw [List.getElem?_append_right hge] at hq
        have h0 : q - M.log.length = 0 := by
          have := (List.getElem?_eq_some_iff.1 hq).1
          simp at this
          omega
        rw [h0] at hq
        simp only [List.getElem?_cons_zero, Option.some.injEq] at hq
        subst hq
        have hql : q = M.log.length := by omega
        rw [hql, List.take_left]
        show a.t.f1 = ((nOf M.log a.t.f0 : Nat) : Int)
        rw [a5, a1]
    · rcases Nat.lt_or_ge q M.log.length with hlt | hge
      · rw [List.getElem?_append_left hlt] at hq
        rw [List.getElem?_append_left (by omega)] at hk
        exact h.lg.two k q u t hkq hk hq
      · rw [List.getElem?_append_right hge] at hq
        have h0 : q - M.log.length = 0 := by
          have := (List.getElem?_eq_some_iff.1 hq).1
          simp at this
          omega
        rw [h0] at hq
        simp only [List.getElem?_cons_zero, Option.some.injEq] at hq
        subst hq
        rw [List.getElem?_append_left (by omega)] at hk
        have hu := List.mem_of_getElem? hk
        obtain ⟨b1, b2, b3⟩ := a6 u hu
        exact ⟨hl u hu, b1, b2, fun hf => b3 (hf.trans a1)⟩
  · rw [e] at hb
    split at hb
    · cases hb
    · rename_i hij
      obtain ⟨b1, b2, b3, b4, b5, b6⟩ := h.act j b hb
      have hne : ¬ (a.t.f0 = (j : Int)) := by rw [a1]; omega
      refine ⟨b1, b2, b3, b4, ?_, fun t ht => ?_⟩
      · show b.t.f1 = ((nOf (M.log ++ [endT a.t M.clock st]) (j : Int) : Nat) : Int)
        rw [nOf_snoc, if_neg (show ¬ (endT a.t M.clock st).f0 = (j : Int) from hne)]
        exact b5
      · have ht' : t ∈ M.log ++ [endT a.t M.clock st] := ht
        rcases List.mem_append.1 ht' with ht | ht
        · exact b6 t ht
        · rw [List.mem_singleton.1 ht]
          have h9 := ho j b hb
          exact ⟨h.dif i j a b hij ha hb, by show M.clock ≠ b.t.f2; omega, fun hf => absurd hf hne⟩
  · rw [e] at hx hy
    split at hx
    · cases hx
    · split at hy
      · cases hy
      · exact h.dif j q x y hjq hx hy
  · rw [e]
    have hb := h.bg j hj
    show _ = ((nOf (M.log ++ [endT a.t M.clock st]) (j : Int) : Nat) : Int) + _
    rw [nOf_snoc]
    split
    · rename_i hij
      subst hij
      rw [ha] at hb
      rw [if_pos (show (endT a.t M.clock st).f0 = (i : Int) from a1)]
      simp only [Option.isSome_some, if_true, Option.isSome_none, Bool.false_eq_true, if_false] at hb ⊢
      omega
    · rename_i hij
      rw [if_neg (show ¬ (endT a.t M.clock st).f0 = (j : Int) from by show ¬ a.t.f0 = (j : Int); rw [a1]; omega)]
      exact hb
theorem Lm.step {N : Nat} {M : Mm} (h : Lm N M) (s : Stp) : Lm N (doM M s).1 := by
  by_cases hc : codeD M s = 0
  · obtain ⟨hB, hU⟩ := codeD_zero hc
    obtain ⟨-, b2, b3, -, -⟩ := codeB_zero hB
    rw [do_ok hc]
    have hct : M.clock < M.clock + 1 + s.gap := by omega
    have ht := h.tick (Int.le_of_lt hct)
    have hl : ∀ t ∈ (M.tick (M.clock + 1 + s.gap)).log, t.f3 < (M.tick (M.clock + 1 + s.gap)).clock := fun t ht' => by
      have := (h.lg.one t ht').2.2.2.2.1
      show t.f3 < M.clock + 1 + s.gap
      omega
    have ho : ∀ j b, ((M.tick (M.clock + 1 + s.gap)).at j).act = some b → b.t.f2 < (M.tick (M.clock + 1 + s.gap)).clock := fun j b hb => by
      obtain ⟨-, -, -, h4, -⟩ := h.act j b hb
      show b.t.f2 < M.clock + 1 + s.gap
      omega
    have hiN : s.ses.toNat < N := by rw [← h.len]; omega
    unfold goM
    split
    · rename_i hn
      exact h.begin hiN hn hct
    · rename_i a ha
      have hs := ho _ a ha
      split
      · exact ht.oper ha _
      split
      · exact ht.oper ha _
      split
      · exact ht.oper ha _
      split
      · unfold comtM
        split
        · exact ht.fin ha hs hl ho 0 M.A
        · exact ht.fin ha hs hl ho 1 _
      · exact ht.fin ha hs hl ho 0 M.A
  · rw [do_no hc]
    exact h
theorem do_begun (M : Mm) (s : Stp) : (doM M s).1.begun ≤ M.begun + (if s.kind = 1 then 1 else 0) := by
  by_cases hc : codeD M s = 0
  · rw [do_ok hc]
    obtain ⟨-, hU⟩ := codeD_zero hc
    obtain ⟨-, u2, -⟩ := codeU_zero hU
    unfold goM
    split
    · rename_i hn
      have hk : s.kind = 1 := Classical.byContradiction fun hk => by
        obtain ⟨a, ha, -⟩ := u2 hk
        rw [show (M.at s.ses.toNat).act = none from hn] at ha
        cases ha
      rw [if_pos hk]
      exact Int.le_refl _
    · have h0 : M.begun ≤ M.begun + (if s.kind = 1 then 1 else 0) := by split <;> omega
      split
      · exact h0
      split
      · exact h0
      split
      · exact h0
      split
      · unfold comtM
        split <;> exact h0
      · exact h0
  · rw [do_no hc]
    show M.begun ≤ _
    split <;> omega
theorem pl_lm {N : Nat} (l : List Stp) {M : Mm} (h : Lm N M) : Lm N (plM M l) ∧ (plM M l).begun ≤ M.begun + l.length := by
  induction l generalizing M with
  | nil => exact ⟨h, by show M.begun ≤ M.begun + 0; omega⟩
  | cons s r ih =>
    obtain ⟨h1, h2⟩ := ih (h.step s)
    refine ⟨h1, ?_⟩
    have h3 := do_begun M s
    have h4 : (if s.kind = 1 then (1 : Int) else 0) ≤ 1 := by split <;> omega
    show (plM (doM M s).1 r).begun ≤ M.begun + ((r.length + 1 : Nat) : Int)
    omega
theorem ab_lm {N : Nat} {M : Mm} (h : Lm N M) (q : Nat) : Lm N (abM M q) ∧ (abM M q).begun ≤ M.begun := by
  induction q with
  | zero => exact ⟨h, Int.le_refl _⟩
  | succ q ih =>
    have h3 := do_begun (abM M q) ⟨6, q, 0, e0, e0⟩
    rw [if_neg (by simp)] at h3
    exact ⟨ih.1.step _, by show (doM (abM M q) ⟨6, q, 0, e0, e0⟩).1.begun ≤ _; have := ih.2; omega⟩
theorem em_inv {N : Nat} (fl : Int) (l : List Stp) (h0 : 1 ≤ N) (h1 : N ≤ 64) : Inv (emM N fl l) := by
  have h5 : ∀ (l : List Stp) {M : Mm}, Inv M → Inv (plM M l) := fun l => by
    induction l with
    | nil => exact fun h => h
    | cons s r ih => exact fun h => ih (h.step s)
  have h6 : ∀ q {M : Mm}, Inv M → Inv (abM M q) := fun q => by
    induction q with
    | zero => exact fun h => h
    | succ q ih => exact fun h => (ih h).step _
  exact h6 N (h5 l (Inv.new h0 h1 fl))
/-- The log that is emitted. -/
theorem em_log {N : Nat} (fl : Int) (l : List Stp) (h0 : 1 ≤ N) (h1 : N ≤ 64) : Lg N (emM N fl l).clock (emM N fl l).log ∧ (emM N fl l).log.length ≤ l.length ∧ (emM N fl l).log.length ≤ 4096 := by
  obtain ⟨a1, a2⟩ := pl_lm l (Lm.new N fl)
  obtain ⟨b1, b2⟩ := ab_lm a1 N
  have hi := em_inv fl l h0 h1
  have hc := hi.cnt
  have hb := hi.b1
  have h9 : (newM N fl).begun = 0 := rfl
  refine ⟨b1.lg, ?_, by omega⟩
  have h8 : (emM N fl l).begun ≤ l.length := by
    have : (emM N fl l).begun ≤ (plM (newM N fl) l).begun := b2
    omega
  omega
end Go.Proofs.Ytmlefbpdlgnkgab
