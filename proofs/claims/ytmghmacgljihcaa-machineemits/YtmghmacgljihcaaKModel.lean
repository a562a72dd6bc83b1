/- What is proved: plain facts on the machine of snapshot isolation: its state as plain data, what a step answers and leaves, what every step keeps; no condition. -/
import Derived.Test.YtmghmacgljihcaaCModel
namespace Go.Proofs.Ytmghmacgljihcaa

/-- An operation, a transaction, an active one with its times, a session, the machine; a step; an answer. -/
structure OpM where
  kind : Int
  key : ByteArray
  found : Bool
  value : ByteArray
structure TxM where
  f0 : Int
  f1 : Int
  f2 : Int
  f3 : Int
  f4 : Int
  f5 : Int
  f6 : Int
  ops : List OpM
structure Ac where
  t : TxM
  ts : List Int
structure Sn where
  begun : Int
  act : Option Ac
structure Mm where
  flaw : Int
  clock : Int
  begun : Int
  ses : List Sn
  A : List En
  log : List TxM
structure Stp where
  kind : Int
  ses : Int
  gap : Int
  key : ByteArray
  value : ByteArray
structure An where
  found : Bool
  value : ByteArray
  status : Int
def z0 : OpM := ⟨0, ⟨#[]⟩, false, ⟨#[]⟩⟩
def sn0 : Sn := ⟨0, none⟩
def an0 : An := ⟨false, ⟨#[]⟩, 0⟩
instance : Inhabited OpM := ⟨z0⟩
instance : Inhabited Sn := ⟨sn0⟩
/-- A write or a delete of the key. -/
def isW (k : ByteArray) (o : OpM) : Bool := (o.key.toList == k.toList) && !(o.kind == 1)
/-- The last of the first n operations that is one. -/
def lw (l : List OpM) (k : ByteArray) : Nat → Option Nat
  | 0 => none
  | n + 1 => if isW k (l.getD n z0) = true then some n else lw l k n
def lastW (l : List OpM) (k : ByteArray) : Option Nat := lw l k l.length
theorem lw_some {l : List OpM} {k : ByteArray} {n i : Nat} (h : lw l k n = some i) : i < n ∧ isW k (l.getD i z0) = true ∧ ∀ j, i < j → j < n → isW k (l.getD j z0) = false := by
  induction n with
  | zero => cases h
  | succ n ih =>
    unfold lw at h
    split at h
    · rename_i h1
      cases h
      exact ⟨by omega, h1, fun j hj hj' => by omega⟩
    · rename_i h1
      obtain ⟨a, b, c⟩ := ih h
      refine ⟨by omega, b, fun j hj hj' => ?_⟩
      rcases Nat.lt_or_eq_of_le (Nat.le_of_lt_succ hj') with h2 | rfl
      · exact c j hj h2
      · simpa using h1
theorem lw_none {l : List OpM} {k : ByteArray} {n : Nat} : lw l k n = none ↔ ∀ j, j < n → isW k (l.getD j z0) = false := by
  induction n with
  | zero => simp [lw]
  | succ n ih =>
    unfold lw
    constructor
    · intro h
      split at h
      · cases h
      · rename_i h1
        intro j hj
        rcases Nat.lt_or_eq_of_le (Nat.le_of_lt_succ hj) with h2 | rfl
        · exact ih.1 h j h2
        · simpa using h1
    · intro h
      rw [if_neg (by rw [h n (by omega)]; decide)]
      exact ih.2 fun j hj => h j (by omega)
theorem lastW_lt {l : List OpM} {k : ByteArray} {i : Nat} (h : lastW l k = some i) : i < l.length := (lw_some h).1
/-- Of the first n operations those that are the last of their keys. -/
def oc (l : List OpM) : Nat → List OpM
  | 0 => []
  | n + 1 => oc l n ++ if lastW l (l.getD n z0).key = some n then [l.getD n z0] else []
def outc (l : List OpM) : List OpM := oc l l.length
theorem oc_length (l : List OpM) (n : Nat) : (oc l n).length ≤ n := by
  induction n with
  | zero => simp [oc]
  | succ n ih =>
    unfold oc
    rw [List.length_append]
    split <;> simp <;> omega
theorem oc_in {l : List OpM} (n : Nat) {o : OpM} : o ∈ oc l n ↔ ∃ i, i < n ∧ lastW l (l.getD i z0).key = some i ∧ o = l.getD i z0 := by
  induction n with
  | zero => simp [oc]
  | succ n ih =>
    unfold oc
    rw [List.mem_append, ih]
    constructor
    · rintro (⟨i, h1, h2⟩ | h)
      · exact ⟨i, by omega, h2⟩
      · split at h
        · rename_i h1
          rw [List.mem_singleton] at h
          exact ⟨n, by omega, h1, h⟩
        · cases h
    · rintro ⟨i, h1, h2, rfl⟩
      rcases Nat.lt_or_eq_of_le (Nat.le_of_lt_succ h1) with h3 | rfl
      · exact .inl ⟨i, h3, h2, rfl⟩
      · right
        rw [if_pos h2]
        simp
/-- Has one of the keys been committed behind the start? -/
def over (A : List En) (start : Int) (l : List OpM) : Bool := l.any fun o => (afM (ch A o.key) start).isSome
/-- The versions of a commit. -/
def insts (A : List En) (c n : Int) (l : List OpM) : List En := l.foldl (fun A o => inst A o.key ⟨c, n, o.found, o.value⟩) A
theorem insts_length (l : List OpM) (A : List En) (c n : Int) : (insts A c n l).length ≤ A.length + l.length := by
  induction l generalizing A with
  | nil => simp [insts]
  | cons o r ih =>
    have h1 := ih (inst A o.key ⟨c, n, o.found, o.value⟩)
    have h2 := inst_length A o.key ⟨c, n, o.found, o.value⟩
    simp only [insts, List.foldl_cons, List.length_cons] at *
    omega
theorem inst_mem {A : List En} {k : ByteArray} {x : Vn} {e : En} (h : e ∈ inst A k x) : e ∈ A ∨ e.x = x := by
  unfold Ytmghmacgljihcaa.inst at h
  split at h
  · rcases List.mem_append.1 h with h | h
    · exact .inl h
    · rw [List.mem_singleton.1 h]
      exact .inr rfl
  · exact .inl h
theorem insts_mem {l : List OpM} {A : List En} {c n : Int} {e : En} (h : e ∈ insts A c n l) : e ∈ A ∨ (e.x.c = c ∧ e.x.w = n) := by
  induction l generalizing A with
  | nil => exact .inl h
  | cons o r ih =>
    rcases ih (A := inst A o.key ⟨c, n, o.found, o.value⟩) h with h | h
    · rcases inst_mem h with h | h
      · exact .inl h
      · rw [h]
        exact .inr ⟨rfl, rfl⟩
    · exact .inr h
theorem insts_snoc (l : List OpM) (o : OpM) (A : List En) (c n : Int) : insts A c n (l ++ [o]) = inst (insts A c n l) o.key ⟨c, n, o.found, o.value⟩ := by simp [insts, List.foldl_append]
/-- What a transaction sees of what is committed. -/
def comM (fl clock : Int) (A : List En) (k : ByteArray) (start : Int) : Vn :=
  match atM (ch A k) (if fl = 2 then clock else start) with
  | none => v0
  | some v => if fl = 3 then (atM (ch A k) (v.c - 1)).getD v0 else v
/-- The last write or delete of the key by the first n sessions' active transactions, and its time. -/
def drt (S : List Sn) (k : ByteArray) : Nat → OpM × Int
  | 0 => (z0, 0)
  | n + 1 => match (S.getD n sn0).act with
    | none => drt S k n
    | some a => match lastW a.t.ops k with
      | none => drt S k n
      | some i => if (drt S k n).2 < a.ts.getD i 0 then (a.t.ops.getD i z0, a.ts.getD i 0) else drt S k n
/-- What a read of a transaction finds. -/
def seeM (M : Mm) (t : TxM) (k : ByteArray) : Bool × ByteArray :=
  match lastW t.ops k with
  | some i => ((t.ops.getD i z0).found, (t.ops.getD i z0).value)
  | none => if M.flaw = 4 ∧ 0 < (drt M.ses k M.ses.length).2 then ((drt M.ses k M.ses.length).1.found, (drt M.ses k M.ses.length).1.value)
    else ((comM M.flaw M.clock M.A k t.f2).f, (comM M.flaw M.clock M.A k t.f2).v)

/-- The session's place. -/
def Mm.at (M : Mm) (i : Nat) : Sn := M.ses.getD i sn0
def Mm.tick (M : Mm) (c : Int) : Mm := { M with clock := c }
def beginM (M : Mm) (i : Nat) (invoke : Int) : Mm := { M with begun := M.begun + 1, ses := M.ses.set i ⟨(M.at i).begun + 1, some ⟨⟨i, (M.at i).begun, M.clock, 0, invoke, 0, 0, []⟩, []⟩⟩ }
def addO (a : Ac) (c : Int) (o : OpM) : Ac := ⟨⟨a.t.f0, a.t.f1, a.t.f2, a.t.f3, a.t.f4, a.t.f5, a.t.f6, a.t.ops ++ [o]⟩, a.ts ++ [c]⟩
def operM (M : Mm) (i : Nat) (a : Ac) (o : OpM) : Mm := { M with ses := M.ses.set i ⟨(M.at i).begun, some (addO a M.clock o)⟩ }
def endT (t : TxM) (c st : Int) : TxM := ⟨t.f0, t.f1, t.f2, c, t.f4, c, st, t.ops⟩
def finM (M : Mm) (i : Nat) (a : Ac) (st : Int) : Mm := { M with ses := M.ses.set i ⟨(M.at i).begun, none⟩, log := M.log ++ [endT a.t M.clock st] }
/-- Does a commit of it fail? -/
def lost (M : Mm) (a : Ac) : Bool := !(M.flaw == 1) && over M.A a.t.f2 (outc a.t.ops)
def comtM (M : Mm) (i : Nat) (a : Ac) : Mm := if lost M a = true then finM M i a 0 else finM { M with A := insts M.A M.clock M.log.length (outc a.t.ops) } i a 1
def comtA (M : Mm) (a : Ac) : An := ⟨false, ⟨#[]⟩, if lost M a = true then 0 else 1⟩

def isO (s : Stp) : Prop := s.kind = 2 ∨ s.kind = 3 ∨ s.kind = 4
instance (s : Stp) : Decidable (isO s) := by unfold isO; infer_instance
/-- Why a step can't be done: whatever was done before; now. -/
def codeB (n : Nat) (s : Stp) : Int :=
  if s.kind < 1 ∨ 6 < s.kind then 151 else if s.ses < 0 ∨ (n : Int) ≤ s.ses then 152 else if s.gap < 0 ∨ 1000 < s.gap then 153
  else if isO s ∧ (s.key.size = 0 ∨ 8 < s.key.size) then 130 else if s.kind = 3 ∧ 16 < s.value.size then 157 else 0
def opsN (o : Option Ac) : Nat := match o with
  | none => 0
  | some a => a.t.ops.length
def codeU (M : Mm) (s : Stp) : Int :=
  if s.kind = 1 ∧ (M.at s.ses.toNat).act.isSome = true then 155 else if s.kind ≠ 1 ∧ (M.at s.ses.toNat).act.isNone = true then 156 else if s.kind = 1 ∧ M.begun = 4096 then 71
  else if isO s ∧ opsN (M.at s.ses.toNat).act = 16 then 63 else if 1099511627776 < M.clock + 1 + s.gap then 154 else 0
def codeD (M : Mm) (s : Stp) : Int := if codeB M.ses.length s ≠ 0 then codeB M.ses.length s else codeU M s
def opW (s : Stp) : OpM := ⟨2, s.key, true, s.value⟩
def opD (s : Stp) : OpM := ⟨3, s.key, false, ⟨#[]⟩⟩
def opR (s : Stp) (x : Bool × ByteArray) : OpM := ⟨1, s.key, x.1, x.2⟩
/-- What a step that is carried out leaves and answers; M with the clock set on already; c: the clock ahead of it. -/
def goM (M : Mm) (c : Int) (s : Stp) : Mm × An :=
  match (M.at s.ses.toNat).act with
  | none => (beginM M s.ses.toNat c, an0)
  | some a => if s.kind = 2 then (operM M s.ses.toNat a (opR s (seeM M a.t s.key)), ⟨(seeM M a.t s.key).1, (seeM M a.t s.key).2, 0⟩)
    else if s.kind = 3 then (operM M s.ses.toNat a (opW s), an0)
    else if s.kind = 4 then (operM M s.ses.toNat a (opD s), an0)
    else if s.kind = 5 then (comtM M s.ses.toNat a, comtA M a)
    else (finM M s.ses.toNat a 0, an0)
def doM (M : Mm) (s : Stp) : Mm × An := if codeD M s = 0 then goM (M.tick (M.clock + 1 + s.gap)) M.clock s else (M, an0)

/-- How many are active. -/
def acts (S : List Sn) : Nat := S.countP fun s => s.act.isSome
theorem acts_set {S : List Sn} {i : Nat} (h : i < S.length) (s : Sn) : acts (S.set i s) + (if (S.getD i sn0).act.isSome = true then 1 else 0) = acts S + (if s.act.isSome = true then 1 else 0) := by
  induction S generalizing i with
  | nil => simp at h
  | cons a r ih =>
    cases i with
    | zero => simp only [acts, List.set_cons_zero, List.countP_cons, List.getD_cons_zero]; omega
    | succ i =>
      have := ih (i := i) (by simpa using h)
      simp only [acts, List.set_cons_succ, List.countP_cons, List.getD_cons_succ] at *
      omega
/-- What stands of an active transaction. -/
structure AcI (c : Int) (a : Ac) : Prop where
  n : a.t.ops.length ≤ 16
  ts : a.ts.length = a.t.ops.length
  pos : ∀ x ∈ a.ts, 0 < x ∧ x ≤ c
  key : ∀ o ∈ a.t.ops, 0 < o.key.size ∧ o.key.size ≤ 8 ∧ (o.kind ≠ 1 → o.value.size ≤ 16 ∧ (o.found = true ∨ o.value.size = 0))
/-- What stands of a machine. -/
structure Inv (M : Mm) : Prop where
  c0 : 0 ≤ M.clock
  c1 : M.clock ≤ 1099511627776
  b0 : 0 ≤ M.begun
  b1 : M.begun ≤ 4096
  sb : ∀ i, i < M.ses.length → 0 ≤ (M.at i).begun ∧ (M.at i).begun ≤ M.begun
  cnt : (M.log.length : Int) + acts M.ses = M.begun
  ac : ∀ i a, (M.at i).act = some a → AcI M.clock a
  al : M.A.length ≤ 16 * M.log.length
  av : ∀ e ∈ M.A, 0 ≤ e.x.c ∧ e.x.c ≤ M.clock
  lg : ∀ t ∈ M.log, t.ops.length ≤ 16
  s0 : 1 ≤ M.ses.length
  s1 : M.ses.length ≤ 64
theorem at_set {S : List Sn} {i j : Nat} (hi : i < S.length) (s : Sn) : (S.set i s).getD j sn0 = if i = j then s else S.getD j sn0 := by
  simp only [List.getD_eq_getElem?_getD, List.getElem?_set]
  split
  · subst_vars
    rfl
  · rfl
theorem at_lt {M : Mm} {i : Nat} {a : Ac} (h : (M.at i).act = some a) : i < M.ses.length := by
  refine Classical.byContradiction fun hn => ?_
  unfold Mm.at at h
  rw [List.getD_eq_getElem?_getD, List.getElem?_eq_none (by omega)] at h
  cases h
theorem acts_pos {S : List Sn} {i : Nat} (hi : i < S.length) (h : (S.getD i sn0).act.isSome = true) : 0 < acts S := by
  unfold acts
  rw [List.countP_pos_iff]
  exact ⟨S.getD i sn0, by rw [List.getD_eq_getElem?_getD, List.getElem?_eq_getElem hi]; simp, h⟩
theorem AcI.mono {c c' : Int} {a : Ac} (h : AcI c a) (hc : c ≤ c') : AcI c' a := ⟨h.n, h.ts, fun x hx => ⟨(h.pos x hx).1, Int.le_trans (h.pos x hx).2 hc⟩, h.key⟩
theorem Inv.tick {M : Mm} (h : Inv M) {c : Int} (h0 : M.clock ≤ c) (h1 : c ≤ 1099511627776) : Inv (M.tick c) :=
  ⟨Int.le_trans h.c0 h0, h1, h.b0, h.b1, h.sb, h.cnt, fun i a ha => (h.ac i a ha).mono h0, h.al, fun e he => ⟨(h.av e he).1, Int.le_trans (h.av e he).2 h0⟩, h.lg, h.s0, h.s1⟩
/-- A session turned. -/
theorem Inv.ses {M : Mm} (h : Inv M) {i : Nat} (hi : i < M.ses.length) {s : Sn} {b : Int} {L : List TxM} {A : List En} (hb : M.begun ≤ b) (hb1 : b ≤ 4096) (hs : 0 ≤ s.begun ∧ s.begun ≤ b) (hc : (L.length : Int) + acts (M.ses.set i s) = b)
    (ha : ∀ a, s.act = some a → AcI M.clock a) (hA : A.length ≤ 16 * L.length) (hv : ∀ e ∈ A, 0 ≤ e.x.c ∧ e.x.c ≤ M.clock) (hL : ∀ t ∈ L, t.ops.length ≤ 16) : Inv { M with begun := b, ses := M.ses.set i s, log := L, A := A } where
  c0 := h.c0
  c1 := h.c1
  b0 := Int.le_trans h.b0 hb
  b1 := hb1
  sb := fun j hj => by
    have hj' : j < M.ses.length := by simpa using hj
    have e : (M.ses.set i s).getD j sn0 = _ := at_set hi s
    simp only [Mm.at, e]
    split
    · exact hs
    · exact ⟨(h.sb j hj').1, Int.le_trans (h.sb j hj').2 hb⟩
  cnt := hc
  ac := fun j a hj => by
    have e : (M.ses.set i s).getD j sn0 = _ := at_set hi s
    simp only [Mm.at, e] at hj
    split at hj
    · exact ha a hj
    · exact h.ac j a hj
  al := hA
  av := hv
  lg := hL
  s0 := by simpa using h.s0
  s1 := by simpa using h.s1
theorem Inv.begin {M : Mm} (h : Inv M) {i : Nat} (hi : i < M.ses.length) (hn : (M.at i).act = none) (hb : M.begun ≠ 4096) (v : Int) : Inv (beginM M i v) := by
  have h1 := h.b1
  have h2 := h.sb i hi
  have h3 := acts_set hi ⟨(M.at i).begun + 1, some ⟨⟨i, (M.at i).begun, M.clock, 0, v, 0, 0, []⟩, []⟩⟩
  have h4 := h.cnt
  have hn' : (M.ses.getD i sn0).act = none := hn
  rw [hn'] at h3
  simp only [Option.isSome_none, Option.isSome_some, if_true, Bool.false_eq_true, if_false] at h3
  refine h.ses hi (b := M.begun + 1) (L := M.log) (A := M.A) (by omega) (by omega) ⟨by simp only; omega, by simp only; omega⟩ (by omega) (fun a ha => ?_) h.al h.av h.lg
  cases ha
  exact ⟨by simp, by simp, fun x hx => (by cases hx), fun x hx => (by cases hx)⟩
theorem Inv.oper {M : Mm} (h : Inv M) {i : Nat} {a : Ac} (ha : (M.at i).act = some a) (hc : 0 < M.clock) (hn : a.t.ops.length ≠ 16) (o : OpM) (ho : 0 < o.key.size ∧ o.key.size ≤ 8 ∧ (o.kind ≠ 1 → o.value.size ≤ 16 ∧ (o.found = true ∨ o.value.size = 0))) : Inv (operM M i a o) := by
  have hi := at_lt ha
  have hq := h.ac i a ha
  have h3 := acts_set hi ⟨(M.at i).begun, some (addO a M.clock o)⟩
  have ha' : (M.ses.getD i sn0).act = some a := ha
  rw [ha'] at h3
  simp only [Option.isSome_some, if_true] at h3
  have h4 := h.cnt
  have hn2 := hq.n
  refine h.ses hi (s := ⟨(M.at i).begun, some (addO a M.clock o)⟩) (b := M.begun) (L := M.log) (A := M.A) (Int.le_refl _) h.b1 (h.sb i hi) (by omega) (fun a' ha' => ?_) h.al h.av h.lg
  cases ha'
  refine ⟨by simp only [addO, List.length_append, List.length_cons, List.length_nil]; omega, by simp [addO, hq.ts], fun x hx => ?_, fun x hx => ?_⟩
  · rcases List.mem_append.1 hx with hx | hx
    · exact hq.pos x hx
    · cases List.mem_singleton.1 hx
      exact ⟨hc, Int.le_refl _⟩
  · rcases List.mem_append.1 hx with hx | hx
    · exact hq.key x hx
    · cases List.mem_singleton.1 hx
      exact ho
theorem Inv.log_lt {M : Mm} (h : Inv M) {i : Nat} {a : Ac} (ha : (M.at i).act = some a) : M.log.length < 4096 := by
  have hi := at_lt ha
  have h3 := acts_pos hi (by have ha' : (M.ses.getD i sn0).act = some a := ha; rw [ha']; rfl)
  have h4 := h.cnt
  have h5 := h.b1
  omega
theorem Inv.fin {M : Mm} (h : Inv M) {i : Nat} {a : Ac} (ha : (M.at i).act = some a) (st : Int) {A : List En} (hA : A.length ≤ M.A.length + 16) (hv : ∀ e ∈ A, 0 ≤ e.x.c ∧ e.x.c ≤ M.clock) : Inv (finM { M with A := A } i a st) := by
  have hi := at_lt ha
  have h3 := acts_set hi ⟨(M.at i).begun, none⟩
  have ha' : (M.ses.getD i sn0).act = some a := ha
  rw [ha'] at h3
  simp only [Option.isSome_some, Option.isSome_none, if_true, Bool.false_eq_true, if_false] at h3
  have h4 := h.cnt
  have h5 := h.al
  exact h.ses hi (s := ⟨(M.at i).begun, none⟩) (b := M.begun) (L := M.log ++ [endT a.t M.clock st]) (A := A) (Int.le_refl _) h.b1 (h.sb i hi) (by simp only [List.length_append, List.length_cons, List.length_nil]; omega) (fun a' ha' => by cases ha') (by simp only [List.length_append, List.length_cons, List.length_nil]; omega) hv fun t ht => by
    rcases List.mem_append.1 ht with ht | ht
    · exact h.lg t ht
    · rw [List.mem_singleton.1 ht]
      exact (h.ac i a ha).n
theorem Inv.comt {M : Mm} (h : Inv M) {i : Nat} {a : Ac} (ha : (M.at i).act = some a) : Inv (comtM M i a) := by
  unfold comtM
  split
  · exact h.fin ha 0 (A := M.A) (by omega) h.av
  · have h1 := insts_length (outc a.t.ops) M.A M.clock M.log.length
    have h2 := oc_length a.t.ops a.t.ops.length
    have h3 := (h.ac i a ha).n
    exact h.fin ha 1 (by unfold outc at h1 ⊢; omega) fun e he => by
      rcases insts_mem he with he | ⟨he, -⟩
      · exact h.av e he
      · rw [he]
        exact ⟨h.c0, Int.le_refl _⟩
theorem codeB_zero {n : Nat} {s : Stp} (h : codeB n s = 0) : (1 ≤ s.kind ∧ s.kind ≤ 6) ∧ (0 ≤ s.ses ∧ s.ses < n) ∧ (0 ≤ s.gap ∧ s.gap ≤ 1000) ∧ (isO s → 0 < s.key.size ∧ s.key.size ≤ 8) ∧ (s.kind = 3 → s.value.size ≤ 16) := by
  unfold codeB at h
  split at h
  · cases h
  split at h
  · cases h
  split at h
  · cases h
  split at h
  · cases h
  split at h
  · cases h
  rename_i h1 h2 h3 h4 h5
  refine ⟨by omega, by omega, by omega, fun ho => ?_, fun hk => ?_⟩
  · have : ¬ (s.key.size = 0 ∨ 8 < s.key.size) := fun h => h4 ⟨ho, h⟩
    omega
  · have : ¬ (16 < s.value.size) := fun h => h5 ⟨hk, h⟩
    omega
theorem codeU_zero {M : Mm} {s : Stp} (h : codeU M s = 0) : (s.kind = 1 → (M.at s.ses.toNat).act = none ∧ M.begun ≠ 4096) ∧ (s.kind ≠ 1 → ∃ a, (M.at s.ses.toNat).act = some a ∧ (isO s → a.t.ops.length ≠ 16)) ∧ M.clock + 1 + s.gap ≤ 1099511627776 := by
  unfold codeU at h
  split at h
  · cases h
  split at h
  · cases h
  split at h
  · cases h
  split at h
  · cases h
  split at h
  · cases h
  rename_i h1 h2 h3 h4 h5
  refine ⟨fun hk => ⟨?_, fun hb => h3 ⟨hk, hb⟩⟩, fun hk => ?_, by omega⟩
  · cases e : (M.at s.ses.toNat).act with
    | none => rfl
    | some a => exact absurd ⟨hk, by rw [e]; rfl⟩ h1
  · cases e : (M.at s.ses.toNat).act with
    | none => exact absurd ⟨hk, by rw [e]; rfl⟩ h2
    | some a => exact ⟨a, rfl, fun ho hn => h4 ⟨ho, by rw [e]; exact hn⟩⟩
theorem codeD_zero {M : Mm} {s : Stp} (h : codeD M s = 0) : codeB M.ses.length s = 0 ∧ codeU M s = 0 := by
  unfold codeD at h
  split at h
  · contradiction
  · rename_i h1
    exact ⟨by simpa using h1, h⟩
theorem Inv.go {M : Mm} (h : Inv M) {s : Stp} (h0 : codeD M s = 0) : Inv (goM (M.tick (M.clock + 1 + s.gap)) M.clock s).1 := by
  obtain ⟨hB, hU⟩ := codeD_zero h0
  obtain ⟨b1, b2, b3, b4, b5⟩ := codeB_zero hB
  obtain ⟨u1, u2, u3⟩ := codeU_zero hU
  have hc := h.c0
  have ht : Inv (M.tick (M.clock + 1 + s.gap)) := h.tick (by omega) u3
  have hcl : 0 < (M.tick (M.clock + 1 + s.gap)).clock := by simp only [Mm.tick]; omega
  have hi : s.ses.toNat < M.ses.length := by omega
  unfold goM
  cases e : ((M.tick (M.clock + 1 + s.gap)).at s.ses.toNat).act with
  | none =>
    have hk : s.kind = 1 := Classical.byContradiction fun hk => by
      obtain ⟨a, ha, -⟩ := u2 hk
      have e' : (M.at s.ses.toNat).act = none := e
      rw [e'] at ha; cases ha
    exact ht.begin hi e (u1 hk).2 _
  | some a =>
    have hk : s.kind ≠ 1 := fun hk => by
      have e' : (M.at s.ses.toNat).act = some a := e
      rw [(u1 hk).1] at e'; cases e'
    have hn : isO s → a.t.ops.length ≠ 16 := by
      obtain ⟨a', ha, hn⟩ := u2 hk
      have e' : (M.at s.ses.toNat).act = some a := e
      rw [e'] at ha; cases ha
      exact hn
    simp only
    split
    · rename_i h2
      exact ht.oper e hcl (hn (.inl h2)) _ ⟨(b4 (.inl h2)).1, (b4 (.inl h2)).2, fun hk => absurd rfl hk⟩
    split
    · rename_i h2
      exact ht.oper e hcl (hn (.inr (.inl h2))) _ ⟨(b4 (.inr (.inl h2))).1, (b4 (.inr (.inl h2))).2, fun _ => ⟨b5 h2, .inl rfl⟩⟩
    split
    · rename_i h2
      exact ht.oper e hcl (hn (.inr (.inr h2))) _ ⟨(b4 (.inr (.inr h2))).1, (b4 (.inr (.inr h2))).2, fun _ => ⟨Nat.zero_le _, .inr rfl⟩⟩
    split
    · exact ht.comt e
    · exact ht.fin e 0 (A := M.A) (by simp only [Mm.tick]; omega) ht.av
theorem Inv.step {M : Mm} (h : Inv M) (s : Stp) : Inv (doM M s).1 := by
  unfold doM
  split
  · exact h.go ‹_›
  · exact h
def newM (n : Nat) (fl : Int) : Mm := ⟨fl, 0, 0, List.replicate n sn0, [], []⟩
theorem at_new (n : Nat) (fl : Int) (i : Nat) : (newM n fl).at i = sn0 := by
  simp only [newM, Mm.at, List.getD_eq_getElem?_getD, List.getElem?_replicate]
  split <;> rfl
theorem Inv.new {n : Nat} (h0 : 1 ≤ n) (h1 : n ≤ 64) (fl : Int) : Inv (newM n fl) where
  c0 := Int.le_refl _
  c1 := by simp [newM]
  b0 := Int.le_refl _
  b1 := by simp [newM]
  sb := fun i _ => by rw [at_new]; exact ⟨Int.le_refl _, Int.le_refl _⟩
  cnt := by
    have : acts (List.replicate n sn0) = 0 := by
      unfold acts
      rw [List.countP_eq_zero]
      intro a ha
      rw [List.eq_of_mem_replicate ha]
      decide
    simp [newM, this]
  ac := fun i a ha => by rw [at_new] at ha; cases ha
  al := by simp [newM]
  av := fun e he => by cases he
  lg := fun t ht => by cases ht
  s0 := by simpa [newM] using h0
  s1 := by simpa [newM] using h1
end Go.Proofs.Ytmghmacgljihcaa
