/- What is proved: plain facts on the document's machine: each step keeps it alike to the program's, and both answer alike; no condition. -/
import Derived.Test.YtmghmacgljihcaaKRq
namespace Go.Proofs.Ytmghmacgljihcaa

def rBeg (R : Rr) (se c : Int) : Rr := { R with all := R.all ++ [⟨⟨se, ((R.all.countP fun r => r.t.f0 == se : Nat) : Int), R.clock, 0, c, 0, 0, []⟩, 0, []⟩] }
def addR (r : Rn) (c : Int) (o : OpM) : Rn := ⟨⟨r.t.f0, r.t.f1, r.t.f2, r.t.f3, r.t.f4, r.t.f5, r.t.f6, r.t.ops ++ [o]⟩, r.st, r.ts ++ [c]⟩
def rOp (R : Rr) (i : Nat) (o : OpM) : Rr := { R with all := R.all.set i (addR (gR R.all i) R.clock o) }
def endR (r : Rn) (c st : Int) : Rn := ⟨endT r.t c st, 1, r.ts⟩
def rEnd (R : Rr) (i : Nat) (st : Int) : Rr := { R with all := R.all.set i (endR (gR R.all i) R.clock st), ends := R.ends ++ [i] }
def rTick (R : Rr) (c : Int) : Rr := { R with clock := c }
theorem gR_set {l : List Rn} {i : Nat} (h : i < l.length) (r : Rn) (q : Nat) : gR (l.set i r) q = if i = q then r else gR l q := by
  unfold gR
  simp only [List.getD_eq_getElem?_getD, List.getElem?_set]
  split
  · subst_vars
    first | rfl | (rw [if_pos h]; rfl)
  · rfl
theorem get_set {l : List Rn} {i : Nat} (h : i < l.length) (r : Rn) {q : Nat} {r' : Rn} (hq : (l.set i r)[q]? = some r') : (i = q ∧ r' = r) ∨ (i ≠ q ∧ l[q]? = some r') := by
  rw [List.getElem?_set] at hq
  split at hq
  · rename_i e
    exact .inl ⟨e, (Option.some.inj hq).symm⟩
  · rename_i e
    exact .inr ⟨e, hq⟩
theorem set_get_ne {l : List Rn} {i q : Nat} (hq : i ≠ q) (r : Rn) {r' : Rn} (h : l[q]? = some r') : (l.set i r)[q]? = some r' := by
  rw [List.getElem?_set, if_neg hq]
  exact h
theorem set_get {l : List Rn} {i : Nat} (h : i < l.length) (r : Rn) : (l.set i r)[i]? = some r := by
  rw [List.getElem?_set, if_pos rfl]
  first | rfl | rw [if_pos h]
theorem count_set {l : List Rn} {i : Nat} {r : Rn} (h : l[i]? = some r) {r' : Rn} (p : Rn → Bool) (hp : p r' = p r) : (l.set i r').countP p = l.countP p := by
  induction l generalizing i with
  | nil => simp at h
  | cons a t ih =>
    cases i with
    | zero =>
      simp only [List.getElem?_cons_zero, Option.some.injEq] at h
      subst h
      simp [List.countP_cons, hp]
    | succ i =>
      simp only [List.getElem?_cons_succ] at h
      simp [List.countP_cons, ih h]
theorem Rl.tick {M : Mm} {R : Rr} (h : Rl M R) {c : Int} (hc : M.clock ≤ c) : Rl (M.tick c) (rTick R c) :=
  ⟨rfl, h.log, h.fin, h.st, h.act, h.own, h.uniq, h.seq, h.beg, h.ver, h.good, h.rise, fun t ht => Int.le_trans (h.ends t ht) hc, h.tms⟩
theorem Rl.begin {M : Mm} {R : Rr} (h : Rl M R) {j : Nat} (hj : j < M.ses.length) (hn : (M.at j).act = none) (c : Int) : Rl (beginM M j c) (rBeg R (j : Int) c) := by
  have hat : ∀ q, (beginM M j c).at q = if j = q then ⟨(M.at j).begun + 1, some ⟨⟨(j : Int), (M.at j).begun, M.clock, 0, c, 0, 0, []⟩, []⟩⟩ else M.at q := fun q => at_set hj _
  have hnone : ∀ (q : Nat) (r : Rn), R.all[q]? = some r → r.st = 0 → r.t.f0 ≠ (j : Int) := fun q r hr hs e => by
    obtain ⟨j', a, -, h2, h3, -⟩ := h.own q r hr hs
    rw [e] at h2
    have : j = j' := by omega
    subst this
    rw [hn] at h3
    cases h3
  obtain ⟨nw, hnw⟩ : ∃ nw : Rn, nw = ⟨⟨(j : Int), ((R.all.countP fun r => r.t.f0 == (j : Int) : Nat) : Int), R.clock, 0, c, 0, 0, []⟩, 0, []⟩ := ⟨_, rfl⟩
  have hall : (rBeg R (j : Int) c).all = R.all ++ [nw] := by rw [hnw]; rfl
  have hnw2 : nw = ⟨⟨(j : Int), (M.at j).begun, M.clock, 0, c, 0, 0, []⟩, 0, []⟩ := by rw [hnw, h.seq j hj, h.clk]
  have hget : ∀ (q : Nat) (r : Rn), (R.all ++ [nw])[q]? = some r → R.all[q]? = some r ∨ (q = R.all.length ∧ r = nw) := fun q r hr => by
    by_cases hq : q < R.all.length
    · rw [List.getElem?_append_left hq] at hr
      exact .inl hr
    · rw [List.getElem?_append_right (by omega)] at hr
      have hq2 := (List.getElem?_eq_some_iff.1 hr).1
      simp only [List.length_cons, List.length_nil] at hq2
      have : q = R.all.length := by omega
      subst this
      simp at hr
      exact .inr ⟨rfl, hr.symm⟩
  have hold : ∀ (q : Nat) (r : Rn), R.all[q]? = some r → (R.all ++ [nw])[q]? = some r := fun q r hr => by
    rw [List.getElem?_append_left (List.getElem?_eq_some_iff.1 hr).1]
    exact hr
  have hgo : ∀ q, q < R.all.length → gR (R.all ++ [nw]) q = gR R.all q := fun q hq => gR_of (hold q _ (gR_at hq))
  have hlast : (R.all ++ [nw])[R.all.length]? = some nw := by simp
  refine ⟨h.clk, ?_, fun i => ?_, fun r hr => ?_, fun q a hq => ?_, fun i r hr hs => ?_, fun i i' r r' hr hr' hs hs' e => ?_, fun q hq => ?_, ?_, h.ver, h.good, h.rise, h.ends, fun i i' r r' hr hr' hs hs' hne => ?_⟩
  · show M.log = R.ends.map fun i => (gR (rBeg R (j : Int) c).all i).t
    rw [h.log, hall]
    refine List.map_congr_left fun i hi => ?_
    rw [hgo i ((h.fin i).1 hi).1]
  · show i ∈ R.ends ↔ _
    rw [h.fin i, hall, List.length_append]
    constructor
    · rintro ⟨h1, h2⟩
      exact ⟨by simp only [List.length_cons, List.length_nil]; omega, by rw [hgo i h1]; exact h2⟩
    · rintro ⟨h1, h2⟩
      by_cases hi : i < R.all.length
      · rw [hgo i hi] at h2
        exact ⟨hi, h2⟩
      · have : i = R.all.length := by simp only [List.length_cons, List.length_nil] at h1; omega
        subst this
        rw [gR_of hlast, hnw] at h2
        exact absurd rfl h2
  · rw [hall] at hr
    rcases List.mem_append.1 hr with hr | hr
    · exact h.st r hr
    · rw [List.mem_singleton.1 hr, hnw]
      exact .inl rfl
  · rw [hat] at hq
    rw [hall]
    split at hq
    · rename_i e
      subst e
      simp only [Option.some.injEq] at hq
      subst hq
      exact ⟨_, by rw [hlast, hnw2], rfl⟩
    · obtain ⟨i, h1, h2⟩ := h.act q a hq
      exact ⟨i, hold i _ h1, h2⟩
  · rw [hall] at hr
    show ∃ (j' : Nat) (a : Ac), j' < (M.ses.set j _).length ∧ _
    rw [List.length_set]
    rcases hget i r hr with hr | ⟨-, rfl⟩
    · obtain ⟨j', a, h1, h2, h3, h4⟩ := h.own i r hr hs
      refine ⟨j', a, h1, h2, ?_, h4⟩
      rw [hat, if_neg (fun e => by subst e; rw [hn] at h3; cases h3)]
      exact h3
    · refine ⟨j, ⟨⟨(j : Int), (M.at j).begun, M.clock, 0, c, 0, 0, []⟩, []⟩, hj, by rw [hnw2], ?_, by rw [hnw2]⟩
      rw [hat, if_pos rfl]
  · rw [hall] at hr hr'
    rcases hget i r hr with h1 | ⟨e1, g1⟩
    · rcases hget i' r' hr' with h2 | ⟨e2, g2⟩
      · exact h.uniq i i' r r' h1 h2 hs hs' e
      · rw [g2, hnw2] at e
        exact absurd e (hnone i r h1 hs)
    · rcases hget i' r' hr' with h2 | ⟨e2, g2⟩
      · rw [g1, hnw2] at e
        exact absurd e.symm (hnone i' r' h2 hs')
      · omega
  · have hq' : q < M.ses.length := by
      have : q < (M.ses.set j _).length := hq
      rwa [List.length_set] at this
    rw [hat, hall, List.countP_append]
    split
    · rename_i e
      subst e
      rw [hnw2]
      simp only [List.countP_cons, List.countP_nil, beq_self_eq_true, if_true]
      rw [h.seq j hj]
      omega
    · rename_i e
      have : (nw.t.f0 == (q : Int)) = false := by rw [hnw2]; simp; omega
      simp only [List.countP_cons, List.countP_nil, this, Bool.false_eq_true, if_false]
      rw [h.seq q hq']
      omega
  · show M.begun + 1 = _
    rw [h.beg, hall, List.length_append]
    simp
  · rw [hall] at hr hr'
    rcases hget i r hr with h1 | ⟨e1, g1⟩
    · rcases hget i' r' hr' with h2 | ⟨e2, g2⟩
      · exact h.tms i i' r r' h1 h2 hs hs' hne
      · intro x hx; rw [g2, hnw]; simp
    · intro x hx; rw [g1, hnw] at hx; simp at hx
theorem Rl.oper {M : Mm} {R : Rr} (h : Rl M R) {j i : Nat} {a : Ac} (ha : (M.at j).act = some a) (hi : R.all[i]? = some ⟨a.t, 0, a.ts⟩) (hf : ∀ (q : Nat) (b : Ac), (M.at q).act = some b → ∀ x ∈ b.ts, x < M.clock) (o : OpM) : Rl (operM M j a o) (rOp R i o) := by
  have hj := at_lt ha
  have hlen := (List.getElem?_eq_some_iff.1 hi).1
  have hg : gR R.all i = ⟨a.t, 0, a.ts⟩ := gR_of hi
  have hat : ∀ q, (operM M j a o).at q = if j = q then ⟨(M.at j).begun, some (addO a M.clock o)⟩ else M.at q := fun q => at_set hj _
  have hnew : addR (gR R.all i) R.clock o = ⟨(addO a M.clock o).t, 0, (addO a M.clock o).ts⟩ := by rw [hg, h.clk]; rfl
  have hall : (rOp R i o).all = R.all.set i ⟨(addO a M.clock o).t, 0, (addO a M.clock o).ts⟩ := by rw [← hnew]; rfl
  have hi0 : ∀ q, (i = q → (gR R.all q).st = 0) := fun q e => by rw [← e, hg]
  have hfe : i ∉ R.ends := fun hm => ((h.fin i).1 hm).2 (by rw [hg])
  have ha0 : a.t.f0 = (j : Int) := by
    obtain ⟨j', a', -, h2, h3, h4⟩ := h.own i _ hi rfl
    simp only [Rn.mk.injEq] at h4
    simp only at h2
    obtain ⟨i2, g1, g2⟩ := h.act j a ha
    exact g2
  have hold : ∀ (q : Nat) (r : Rn), R.all[q]? = some r → r.st = 0 → ∀ x ∈ r.ts, x < M.clock := fun q r hr hs => by
    obtain ⟨j', a', -, -, h3, rfl⟩ := h.own q r hr hs
    exact hf j' a' h3
  refine ⟨h.clk, ?_, fun q => ?_, fun r hr => ?_, fun q b hq => ?_, fun q r hr hs => ?_, fun q q' r r' hr hr' hs hs' e => ?_, fun q hq => ?_, ?_, h.ver, h.good, h.rise, h.ends, fun q q' r r' hr hr' hs hs' hne x hx => ?_⟩
  · show M.log = R.ends.map fun i' => (gR (rOp R i o).all i').t
    rw [h.log, hall]
    refine List.map_congr_left fun q hq => ?_
    rw [gR_set hlen, if_neg (fun e => hfe (by rw [e]; exact hq))]
  · show q ∈ R.ends ↔ _
    rw [h.fin q, hall, List.length_set, gR_set hlen]
    split
    · rename_i e
      rw [hi0 q e]
    · rfl
  · rw [hall] at hr
    obtain ⟨q, hq⟩ := List.getElem?_of_mem hr
    rcases get_set hlen _ hq with ⟨-, rfl⟩ | ⟨-, h2⟩
    · exact .inl rfl
    · exact h.st r (List.mem_of_getElem? h2)
  · rw [hat] at hq
    rw [hall]
    split at hq
    · rename_i e
      subst e
      simp only [Option.some.injEq] at hq
      subst hq
      exact ⟨i, set_get hlen _, ha0⟩
    · rename_i e
      obtain ⟨i', h1, h2⟩ := h.act q b hq
      refine ⟨i', set_get_ne (fun e9 => ?_) _ h1, h2⟩
      subst e9
      rw [hi] at h1
      simp only [Option.some.injEq, Rn.mk.injEq] at h1
      rw [← h1.1, ha0] at h2
      omega
  · rw [hall] at hr
    show ∃ (j' : Nat) (a : Ac), j' < (M.ses.set j _).length ∧ _
    rw [List.length_set]
    rcases get_set hlen _ hr with ⟨-, rfl⟩ | ⟨e, h2⟩
    · exact ⟨j, addO a M.clock o, hj, ha0, by rw [hat, if_pos rfl], rfl⟩
    · obtain ⟨j', a', h1, h3, h4, h5⟩ := h.own q r h2 hs
      refine ⟨j', a', h1, h3, ?_, h5⟩
      rw [hat, if_neg]
      · exact h4
      · intro e9
        subst e9
        exact e (h.uniq i q _ _ hi h2 rfl hs (by rw [h3]; exact ha0))
  · rw [hall] at hr hr'
    rcases get_set hlen _ hr with ⟨e1, rfl⟩ | ⟨e1, h1⟩
    · rcases get_set hlen _ hr' with ⟨e2, rfl⟩ | ⟨e2, h2⟩
      · omega
      · rw [← e1]
        exact h.uniq i q' _ _ hi h2 rfl hs' e
    · rcases get_set hlen _ hr' with ⟨e2, rfl⟩ | ⟨e2, h2⟩
      · rw [← e2]
        exact h.uniq q i _ _ h1 hi hs rfl e
      · exact h.uniq q q' r r' h1 h2 hs hs' e
  · have hq' : q < M.ses.length := by
      have : q < (M.ses.set j _).length := hq
      rwa [List.length_set] at this
    rw [hat, hall, count_set hi]
    · split
      · rename_i e
        subst e
        exact h.seq j hj
      · exact h.seq q hq'
    · rfl
  · show M.begun = _
    rw [h.beg, hall, List.length_set]
  · rw [hall] at hr hr'
    rcases get_set hlen _ hr with ⟨e1, rfl⟩ | ⟨e1, h1⟩
    · rcases get_set hlen _ hr' with ⟨e2, rfl⟩ | ⟨e2, h2⟩
      · omega
      · rcases List.mem_append.1 hx with hx | hx
        · exact h.tms i q' _ _ hi h2 rfl hs' e2 x hx
        · rw [List.mem_singleton.1 hx]
          intro h9
          have := hold q' r' h2 hs' _ h9
          omega
    · rcases get_set hlen _ hr' with ⟨e2, rfl⟩ | ⟨e2, h2⟩
      · intro h9
        rcases List.mem_append.1 h9 with h9 | h9
        · exact h.tms q i _ _ h1 hi hs rfl (fun e9 => e1 e9.symm) x hx h9
        · have := hold q r h1 hs x hx
          rw [List.mem_singleton.1 h9] at this
          omega
      · exact h.tms q q' r r' h1 h2 hs hs' hne x hx
theorem Rl.fin_ {M : Mm} {R : Rr} (h : Rl M R) {j i : Nat} {a : Ac} (ha : (M.at j).act = some a) (hi : R.all[i]? = some ⟨a.t, 0, a.ts⟩) (st : Int) {A : List En} (hA : Good A) (hv : ∀ k, ch A k = vs k 0 M.log ++ one k M.log.length (endT a.t M.clock st)) (he : ∀ t ∈ M.log, t.f3 < M.clock) : Rl (finM { M with A := A } j a st) (rEnd R i st) := by
  have hj := at_lt ha
  have hlen := (List.getElem?_eq_some_iff.1 hi).1
  have hg : gR R.all i = ⟨a.t, 0, a.ts⟩ := gR_of hi
  have hat : ∀ q, (finM { M with A := A } j a st).at q = if j = q then ⟨(M.at j).begun, none⟩ else M.at q := fun q => at_set hj _
  have hnew : endR (gR R.all i) R.clock st = ⟨endT a.t M.clock st, 1, a.ts⟩ := by rw [hg, h.clk]; rfl
  have hall : (rEnd R i st).all = R.all.set i ⟨endT a.t M.clock st, 1, a.ts⟩ := by rw [← hnew]; rfl
  have hfe : i ∉ R.ends := fun hm => ((h.fin i).1 hm).2 (by rw [hg])
  have ha0 : a.t.f0 = (j : Int) := by
    obtain ⟨i2, g1, g2⟩ := h.act j a ha
    exact g2
  have hlg : (finM { M with A := A } j a st).log = M.log ++ [endT a.t M.clock st] := rfl
  refine ⟨h.clk, ?_, fun q => ?_, fun r hr => ?_, fun q b hq => ?_, fun q r hr hs => ?_, fun q q' r r' hr hr' hs hs' e => ?_, fun q hq => ?_, ?_, fun k => ?_, hA, ?_, fun t ht => ?_, fun q q' r r' hr hr' hs hs' hne x hx => ?_⟩
  · rw [hlg, hall]
    show _ = (R.ends ++ [i]).map _
    rw [List.map_append, h.log]
    congr 1
    · refine List.map_congr_left fun q hq => ?_
      rw [gR_set hlen, if_neg (fun e => hfe (by rw [e]; exact hq))]
    · simp only [List.map_cons, List.map_nil]
      rw [gR_set hlen, if_pos rfl]
  · show q ∈ R.ends ++ [i] ↔ _
    rw [List.mem_append, h.fin q, hall, List.length_set, gR_set hlen, List.mem_singleton]
    by_cases e : i = q
    · subst e
      rw [if_pos rfl]
      simp [hlen]
    · rw [if_neg e]
      constructor
      · rintro (h1 | h1)
        · exact h1
        · exact absurd h1.symm e
      · exact .inl
  · rw [hall] at hr
    obtain ⟨q, hq⟩ := List.getElem?_of_mem hr
    rcases get_set hlen _ hq with ⟨-, rfl⟩ | ⟨-, h2⟩
    · exact .inr rfl
    · exact h.st r (List.mem_of_getElem? h2)
  · rw [hat] at hq
    rw [hall]
    split at hq
    · cases hq
    · rename_i e
      obtain ⟨i', h1, h2⟩ := h.act q b hq
      refine ⟨i', set_get_ne (fun e9 => ?_) _ h1, h2⟩
      subst e9
      rw [hi] at h1
      simp only [Option.some.injEq, Rn.mk.injEq] at h1
      rw [← h1.1, ha0] at h2
      omega
  · rw [hall] at hr
    show ∃ (j' : Nat) (a : Ac), j' < (M.ses.set j _).length ∧ _
    rw [List.length_set]
    rcases get_set hlen _ hr with ⟨-, rfl⟩ | ⟨e, h2⟩
    · exact absurd hs (show ¬ (1 : Int) = 0 by decide)
    · obtain ⟨j', a', h1, h3, h4, h5⟩ := h.own q r h2 hs
      refine ⟨j', a', h1, h3, ?_, h5⟩
      rw [hat, if_neg]
      · exact h4
      · intro e9
        subst e9
        exact e (h.uniq i q _ _ hi h2 rfl hs (by rw [h3]; exact ha0))
  · rw [hall] at hr hr'
    rcases get_set hlen _ hr with ⟨e1, rfl⟩ | ⟨e1, h1⟩
    · exact absurd hs (show ¬ (1 : Int) = 0 by decide)
    · rcases get_set hlen _ hr' with ⟨e2, rfl⟩ | ⟨e2, h2⟩
      · exact absurd hs' (show ¬ (1 : Int) = 0 by decide)
      · exact h.uniq q q' r r' h1 h2 hs hs' e
  · have hq' : q < M.ses.length := by
      have : q < (M.ses.set j _).length := hq
      rwa [List.length_set] at this
    rw [hat, hall, count_set hi]
    · split
      · rename_i e
        subst e
        exact h.seq j hj
      · exact h.seq q hq'
    · rfl
  · show M.begun = _
    rw [h.beg, hall, List.length_set]
  · rw [hlg, vs_snoc, Nat.zero_add]
    exact hv k
  · rw [hlg]
    refine List.pairwise_append.2 ⟨h.rise, List.pairwise_singleton _ _, fun t ht t' ht' => ?_⟩
    rw [List.mem_singleton.1 ht']
    exact he t ht
  · rw [hlg] at ht
    rcases List.mem_append.1 ht with ht | ht
    · exact h.ends t ht
    · rw [List.mem_singleton.1 ht]
      exact Int.le_refl _
  · rw [hall] at hr hr'
    rcases get_set hlen _ hr with ⟨e1, rfl⟩ | ⟨e1, h1⟩
    · exact absurd hs (show ¬ (1 : Int) = 0 by decide)
    · rcases get_set hlen _ hr' with ⟨e2, rfl⟩ | ⟨e2, h2⟩
      · exact absurd hs' (show ¬ (1 : Int) = 0 by decide)
      · exact h.tms q q' r r' h1 h2 hs hs' hne x hx
theorem Rl.new (n : Nat) (fl : Int) : Rl (newM n fl) ⟨0, [], []⟩ :=
  ⟨rfl, rfl, fun i => (by simp), fun r hr => (by cases hr), fun j a ha => (by rw [at_new] at ha; cases ha), fun i r hr => (by simp at hr), fun i i' r r' hr => (by simp at hr), fun j hj => (by rw [at_new]; rfl), rfl, fun k => rfl, Good.nil, List.Pairwise.nil, fun t ht => (by cases ht), fun i i' r r' hr => (by simp at hr)⟩
end Go.Proofs.Ytmghmacgljihcaa
