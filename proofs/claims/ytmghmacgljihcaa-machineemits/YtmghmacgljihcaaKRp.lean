/- What is proved: plain facts on the document's machine: one list of all transactions, what it sees, reads and lets pass; how its state stands to the program's; no condition. -/
import Derived.Test.YtmghmacgljihcaaKPl
namespace Go.Proofs.Ytmghmacgljihcaa

/-- A transaction of the document's: its state, its times; the machine. -/
structure Rn where
  t : TxM
  st : Int
  ts : List Int
structure Rr where
  clock : Int
  all : List Rn
  ends : List Nat
def t0 : TxM := ⟨0, 0, 0, 0, 0, 0, 0, []⟩
def rn0 : Rn := ⟨t0, 0, []⟩
instance : Inhabited Rn := ⟨rn0⟩
/-- A place, or -1. -/
def ix : Option Nat → Int
  | none => -1
  | some i => (i : Int)
theorem ix_nn (o : Option Nat) : 0 ≤ ix o ↔ o.isSome = true := by
  cases o with
  | none => simp [ix]
  | some i => simp [ix]
def gR (l : List Rn) (i : Nat) : Rn := l.getD i rn0
theorem gR_of {l : List Rn} {i : Nat} {r : Rn} (h : l[i]? = some r) : gR l i = r := by
  unfold gR
  rw [List.getD_eq_getElem?_getD, h]
  rfl
theorem gR_at {l : List Rn} {i : Nat} (h : i < l.length) : l[i]? = some (gR l i) := by
  unfold gR
  rw [List.getD_eq_getElem?_getD, List.getElem?_eq_getElem h]
  rfl
/-- A session's active transaction. -/
def isA (se : Int) (r : Rn) : Bool := (r.st == 0) && (r.t.f0 == se)
def rAct (l : List Rn) (se : Int) : Option Nat := l.findIdx? (isA se)
theorem rAct_some {l : List Rn} {se : Int} {i : Nat} {r : Rn} (h : l[i]? = some r) (hr : isA se r = true) (hn : ∀ (j : Nat) (r' : Rn), j < i → l[j]? = some r' → isA se r' = false) : rAct l se = some i := by
  unfold rAct
  rw [List.findIdx?_eq_some_iff_getElem]
  obtain ⟨h1, h2⟩ := List.getElem?_eq_some_iff.1 h
  refine ⟨h1, by rw [h2]; exact hr, fun j hj => ?_⟩
  have := hn j _ hj (List.getElem?_eq_getElem (by omega))
  simpa using this
theorem rAct_none {l : List Rn} {se : Int} (hn : ∀ (j : Nat) (r' : Rn), l[j]? = some r' → isA se r' = false) : rAct l se = none := by
  unfold rAct
  rw [List.findIdx?_eq_none_iff]
  intro r hr
  obtain ⟨j, hj⟩ := List.getElem?_of_mem hr
  simpa using hn j r hj
theorem rAct_in {l : List Rn} {se : Int} {i : Nat} (h : rAct l se = some i) : ∃ r, l[i]? = some r ∧ isA se r = true := by
  unfold rAct at h
  rw [List.findIdx?_eq_some_iff_getElem] at h
  obtain ⟨h1, h2, -⟩ := h
  exact ⟨_, List.getElem?_eq_getElem h1, h2⟩
theorem rAct_out {l : List Rn} {se : Int} (h : rAct l se = none) {j : Nat} {r : Rn} (hj : l[j]? = some r) : isA se r = false := by
  unfold rAct at h
  rw [List.findIdx?_eq_none_iff] at h
  simpa using h r (List.mem_of_getElem? hj)
/-- Seen at a time: committed by then, with a write of the key. -/
def vis (k : ByteArray) (time : Int) (r : Rn) : Bool := (r.st == 1) && (r.t.f6 == 1) && decide (r.t.f3 ≤ time) && (lastW r.t.ops k).isSome
def bt (l : List Rn) (o : Option Nat) (e : Int) : Bool := match o with
  | none => true
  | some b => decide ((gR l b).t.f3 < e)
def rSeen (l : List Rn) (k : ByteArray) (time : Int) : Nat → Option Nat
  | 0 => none
  | n + 1 => if (vis k time (gR l n) && bt l (rSeen l k time n) (gR l n).t.f3) = true then some n else rSeen l k time n
abbrev rSee (l : List Rn) (k : ByteArray) (time : Int) : Option Nat := rSeen l k time l.length
theorem rSeen_spec (l : List Rn) (k : ByteArray) (time : Int) (n : Nat) : (rSeen l k time n = none ∧ ∀ i, i < n → vis k time (gR l i) = false) ∨ ∃ b, rSeen l k time n = some b ∧ b < n ∧ vis k time (gR l b) = true ∧ ∀ i, i < n → vis k time (gR l i) = true → (gR l i).t.f3 ≤ (gR l b).t.f3 := by
  induction n with
  | zero => exact .inl ⟨rfl, fun i hi => by omega⟩
  | succ n ih =>
    rw [rSeen]
    rcases ih with ⟨h1, h2⟩ | ⟨b, h1, h2, h3, h4⟩
    · rw [h1]
      by_cases hv : vis k time (gR l n) = true
      · rw [if_pos (by rw [hv]; rfl)]
        refine .inr ⟨n, rfl, by omega, hv, fun i hi hvi => ?_⟩
        rcases Nat.lt_or_eq_of_le (Nat.le_of_lt_succ hi) with h | rfl
        · rw [h2 i h] at hvi; cases hvi
        · exact Int.le_refl _
      · rw [if_neg (by simp [hv])]
        refine .inl ⟨rfl, fun i hi => ?_⟩
        rcases Nat.lt_or_eq_of_le (Nat.le_of_lt_succ hi) with h | rfl
        · exact h2 i h
        · simpa using hv
    · rw [h1]
      by_cases hv : (vis k time (gR l n) && bt l (some b) (gR l n).t.f3) = true
      · rw [if_pos hv]
        simp only [Bool.and_eq_true, bt, decide_eq_true_eq] at hv
        refine .inr ⟨n, rfl, by omega, hv.1, fun i hi hvi => ?_⟩
        rcases Nat.lt_or_eq_of_le (Nat.le_of_lt_succ hi) with h | rfl
        · have := h4 i h hvi; omega
        · exact Int.le_refl _
      · rw [if_neg hv]
        refine .inr ⟨b, rfl, by omega, h3, fun i hi hvi => ?_⟩
        rcases Nat.lt_or_eq_of_le (Nat.le_of_lt_succ hi) with h | rfl
        · exact h4 i h hvi
        · simp only [Bool.and_eq_true, bt, decide_eq_true_eq, not_and] at hv
          have := hv hvi
          omega
/-- What a transaction's version of a key holds. -/
def opL (t : TxM) (k : ByteArray) : OpM := match lastW t.ops k with
  | none => z0
  | some i => t.ops.getD i z0
def rHeld (l : List Rn) (o : Option Nat) (k : ByteArray) : Bool × ByteArray := match o with
  | none => (false, e0)
  | some b => ((opL (gR l b).t k).found, (opL (gR l b).t k).value)
/-- The active one other than i whose operation left the key last; and when. -/
def rDirt (l : List Rn) (i : Nat) (k : ByteArray) : Nat → Option Nat × Int
  | 0 => (none, -1)
  | n + 1 => match lastW (gR l n).t.ops k with
    | none => rDirt l i k n
    | some o => if n ≠ i ∧ (gR l n).st = 0 ∧ (rDirt l i k n).2 < (gR l n).ts.getD o 0 then (some n, (gR l n).ts.getD o 0) else rDirt l i k n
def rRead (fl clock : Int) (l : List Rn) (i : Nat) (k : ByteArray) : Bool × ByteArray :=
  if (lastW (gR l i).t.ops k).isSome = true then rHeld l (some i) k else
    let v := rSee l k (if fl = 2 then clock else (gR l i).t.f2)
    let v := if fl = 3 then v.bind fun b => rSee l k ((gR l b).t.f3 - 1) else v
    rHeld l (if fl = 4 ∧ (rDirt l i k l.length).1.isSome = true then (rDirt l i k l.length).1 else v) k
/-- Has one of the operations' keys been committed behind the start? -/
def aft (l : List Rn) (o : Option Nat) (start : Int) : Bool := match o with
  | none => false
  | some b => decide (start < (gR l b).t.f3)
def late1 (l : List Rn) (clock start : Int) (o : OpM) : Bool := !(o.kind == 1) && aft l (rSee l o.key clock) start
def rPass (fl clock : Int) (l : List Rn) (t : TxM) : Bool := (fl == 1) || !(t.ops.any (late1 l clock t.f2))
/-- Versions, as a log makes them. -/
def one (k : ByteArray) (n : Nat) (t : TxM) : List Vn := if t.f6 = 1 ∧ (lastW t.ops k).isSome = true then [⟨t.f3, n, (opL t k).found, (opL t k).value⟩] else []
def vs (k : ByteArray) : Nat → List TxM → List Vn
  | _, [] => []
  | n, t :: r => one k n t ++ vs k (n + 1) r
theorem vs_snoc (k : ByteArray) (n : Nat) (l : List TxM) (t : TxM) : vs k n (l ++ [t]) = vs k n l ++ one k (n + l.length) t := by
  induction l generalizing n with
  | nil => simp [vs]
  | cons a r ih =>
    show one k n a ++ vs k (n + 1) (r ++ [t]) = one k n a ++ vs k (n + 1) r ++ one k (n + (r.length + 1)) t
    rw [ih, List.append_assoc, show n + 1 + r.length = n + (r.length + 1) by omega]
theorem mem_vs {k : ByteArray} {n : Nat} {l : List TxM} {x : Vn} : x ∈ vs k n l ↔ ∃ i t, l[i]? = some t ∧ x ∈ one k (n + i) t := by
  induction l generalizing n with
  | nil => simp [vs]
  | cons a r ih =>
    show x ∈ one k n a ++ vs k (n + 1) r ↔ _
    rw [List.mem_append, ih]
    constructor
    · rintro (h | ⟨i, t, h1, h2⟩)
      · exact ⟨0, a, rfl, h⟩
      · exact ⟨i + 1, t, h1, by rw [show n + (i + 1) = n + 1 + i by omega]; exact h2⟩
    · rintro ⟨i, t, h1, h2⟩
      cases i with
      | zero =>
        simp only [List.getElem?_cons_zero, Option.some.injEq] at h1
        subst h1
        exact .inl h2
      | succ i => exact .inr ⟨i, t, h1, by rw [show n + 1 + i = n + (i + 1) by omega]; exact h2⟩
theorem mem_one {k : ByteArray} {n : Nat} {t : TxM} {x : Vn} : x ∈ one k n t ↔ (t.f6 = 1 ∧ (lastW t.ops k).isSome = true) ∧ x = ⟨t.f3, n, (opL t k).found, (opL t k).value⟩ := by
  unfold one
  split
  · rename_i h
    simp [h]
  · rename_i h
    simp [h]
/-- How the document's state stands to the program's. -/
structure Rl (M : Mm) (R : Rr) : Prop where
  clk : R.clock = M.clock
  log : M.log = R.ends.map fun i => (gR R.all i).t
  fin : ∀ i, i ∈ R.ends ↔ (i < R.all.length ∧ (gR R.all i).st ≠ 0)
  st : ∀ r ∈ R.all, r.st = 0 ∨ r.st = 1
  act : ∀ (j : Nat) (a : Ac), (M.at j).act = some a → ∃ i : Nat, R.all[i]? = some (⟨a.t, 0, a.ts⟩ : Rn) ∧ a.t.f0 = (j : Int)
  own : ∀ (i : Nat) (r : Rn), R.all[i]? = some r → r.st = 0 → ∃ (j : Nat) (a : Ac), j < M.ses.length ∧ r.t.f0 = (j : Int) ∧ (M.at j).act = some a ∧ r = ⟨a.t, 0, a.ts⟩
  uniq : ∀ (i i' : Nat) (r r' : Rn), R.all[i]? = some r → R.all[i']? = some r' → r.st = 0 → r'.st = 0 → r.t.f0 = r'.t.f0 → i = i'
  seq : ∀ j, j < M.ses.length → (M.at j).begun = ((R.all.countP fun r => r.t.f0 == (j : Int) : Nat) : Int)
  beg : M.begun = (R.all.length : Nat)
  ver : ∀ k, ch M.A k = vs k 0 M.log
  good : Good M.A
  rise : M.log.Pairwise fun a b => a.f3 < b.f3
  ends : ∀ t ∈ M.log, t.f3 ≤ M.clock
  tms : ∀ (i i' : Nat) (r r' : Rn), R.all[i]? = some r → R.all[i']? = some r' → r.st = 0 → r'.st = 0 → i ≠ i' → ∀ x ∈ r.ts, x ∉ r'.ts
theorem Rl.actI {M : Mm} {R : Rr} (h : Rl M R) {j : Nat} {a : Ac} (ha : (M.at j).act = some a) : ∃ i : Nat, rAct R.all (j : Int) = some i ∧ R.all[i]? = some (⟨a.t, 0, a.ts⟩ : Rn) := by
  obtain ⟨i, h1, h2⟩ := h.act j a ha
  refine ⟨i, rAct_some h1 (by simp [isA, h2]) (fun q r' hq hr' => ?_), h1⟩
  cases e : isA (j : Int) r' with
  | false => rfl
  | true =>
    simp only [isA, Bool.and_eq_true, beq_iff_eq] at e
    have := h.uniq q i r' _ hr' h1 e.1 rfl (by rw [e.2, h2])
    omega
theorem Rl.actN {M : Mm} {R : Rr} (h : Rl M R) {j : Nat} (ha : (M.at j).act = none) : rAct R.all (j : Int) = none := by
  refine rAct_none fun q r' hr' => ?_
  cases e : isA (j : Int) r' with
  | false => rfl
  | true =>
    simp only [isA, Bool.and_eq_true, beq_iff_eq] at e
    obtain ⟨j', a, -, h2, h3, -⟩ := h.own q r' hr' e.1
    rw [e.2] at h2
    have : j = j' := by omega
    subst this
    rw [ha] at h3
    cases h3
theorem Rl.actS {M : Mm} {R : Rr} (h : Rl M R) (j : Nat) : (rAct R.all (j : Int)).isSome = (M.at j).act.isSome := by
  cases e : (M.at j).act with
  | none => rw [h.actN e]; rfl
  | some a =>
    obtain ⟨i, h1, -⟩ := h.actI e
    rw [h1]
    rfl
/-- A finished one is in the log. -/
theorem Rl.inLog {M : Mm} {R : Rr} (h : Rl M R) {i : Nat} (hi : i < R.all.length) (hs : (gR R.all i).st ≠ 0) : ∃ p : Nat, R.ends[p]? = some i ∧ M.log[p]? = some (gR R.all i).t := by
  obtain ⟨p, hp⟩ := List.getElem?_of_mem ((h.fin i).2 ⟨hi, hs⟩)
  refine ⟨p, hp, ?_⟩
  rw [h.log, List.getElem?_map, hp]
  rfl
theorem Rl.logIn {M : Mm} {R : Rr} (h : Rl M R) {p : Nat} {t : TxM} (ht : M.log[p]? = some t) : ∃ i, R.ends[p]? = some i ∧ i < R.all.length ∧ (gR R.all i).st = 1 ∧ (gR R.all i).t = t := by
  rw [h.log, List.getElem?_map] at ht
  cases e : R.ends[p]? with
  | none => rw [e] at ht; cases ht
  | some i =>
    rw [e] at ht
    simp only [Option.map_some, Option.some.injEq] at ht
    obtain ⟨h1, h2⟩ := (h.fin i).1 (List.mem_of_getElem? e)
    refine ⟨i, rfl, h1, ?_, ht⟩
    rcases h.st _ (List.mem_of_getElem? (gR_at h1)) with h3 | h3
    · exact absurd h3 h2
    · exact h3
theorem vis_iff {k : ByteArray} {time : Int} {r : Rn} : vis k time r = true ↔ r.st = 1 ∧ r.t.f6 = 1 ∧ r.t.f3 ≤ time ∧ (lastW r.t.ops k).isSome = true := by
  unfold vis
  simp only [Bool.and_eq_true, beq_iff_eq, decide_eq_true_eq]
  exact ⟨fun ⟨⟨⟨a, b⟩, c⟩, d⟩ => ⟨a, b, c, d⟩, fun ⟨a, b, c, d⟩ => ⟨⟨⟨a, b⟩, c⟩, d⟩⟩
/-- What is seen. -/
theorem Rl.see {M : Mm} {R : Rr} (h : Rl M R) (k : ByteArray) (time : Int) : (rSee R.all k time = none ∧ atM (ch M.A k) time = none) ∨ ∃ b w, rSee R.all k time = some b ∧ b < R.all.length ∧ atM (ch M.A k) time = some ⟨(gR R.all b).t.f3, w, (rHeld R.all (some b) k).1, (rHeld R.all (some b) k).2⟩ := by
  have hin : ∀ y ∈ ch M.A k, y.c ≤ time → ∃ i p, i < R.all.length ∧ M.log[p]? = some (gR R.all i).t ∧ vis k time (gR R.all i) = true ∧ y = ⟨(gR R.all i).t.f3, (p : Nat), (opL (gR R.all i).t k).found, (opL (gR R.all i).t k).value⟩ := fun y hy hc => by
    rw [h.ver, mem_vs] at hy
    obtain ⟨p, t, h1, h2⟩ := hy
    rw [mem_one] at h2
    obtain ⟨⟨h3, h4⟩, rfl⟩ := h2
    obtain ⟨i, e1, e2, e3, rfl⟩ := h.logIn h1
    exact ⟨i, p, e2, h1, vis_iff.2 ⟨e3, h3, hc, h4⟩, by simp⟩
  rcases rSeen_spec R.all k time R.all.length with ⟨h1, h2⟩ | ⟨b, h1, h2, h3, h4⟩
  · refine .inl ⟨h1, Asc.at_none fun y hy hc => ?_⟩
    obtain ⟨i, p, e1, -, e2, -⟩ := hin y hy hc
    rw [h2 i e1] at e2
    cases e2
  · obtain ⟨v1, v2, v3, v4⟩ := vis_iff.1 h3
    obtain ⟨p, -, e2⟩ := h.inLog h2 (by rw [v1]; decide)
    refine .inr ⟨b, (p : Nat), h1, h2, (h.good k).at_spec ?_ v3 fun y hy hc => ?_⟩
    · rw [h.ver, mem_vs]
      exact ⟨p, _, e2, mem_one.2 ⟨⟨v2, v4⟩, by simp [rHeld]⟩⟩
    · obtain ⟨i, q, i1, i2, i3, rfl⟩ := hin y hy hc
      have h5 := h4 i i1 i3
      cases hg : gt ⟨(gR R.all i).t.f3, (q : Nat), (opL (gR R.all i).t k).found, (opL (gR R.all i).t k).value⟩ ⟨(gR R.all b).t.f3, (p : Nat), (rHeld R.all (some b) k).1, (rHeld R.all (some b) k).2⟩ with
      | false => rfl
      | true =>
        rw [gt_iff] at hg
        simp only at hg
        obtain ⟨p1, pe⟩ := List.getElem?_eq_some_iff.1 e2
        obtain ⟨q1, qe⟩ := List.getElem?_eq_some_iff.1 i2
        have hr := List.pairwise_iff_getElem.1 h.rise
        rcases Nat.lt_trichotomy p q with hpq | hpq | hpq
        · have := hr p q p1 q1 hpq
          rw [pe, qe] at this
          omega
        · omega
        · have := hr q p q1 p1 hpq
          rw [pe, qe] at this
          omega
end Go.Proofs.Ytmghmacgljihcaa
