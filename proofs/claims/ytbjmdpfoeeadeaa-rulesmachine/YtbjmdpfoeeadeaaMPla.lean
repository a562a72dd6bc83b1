/- What is proved: plain facts on the machine of snapshot isolation, the document's and the package's, and on what they emit; a script as an argument; no condition. -/
import Derived.Test.YtbjmdpfoeeadeaaCModel
import Derived.ChangeMaps5
import Derived.Deep.Slices
import Derived.SizedLaws
import Derived.ProofKit
import Derived.OpenShut
namespace Go.Proofs.Ytbjmdpfoeeadeaa.Ch.Mc

/-- An operation, a transaction, an active one with its times, a session, the machine; a step; an answer. -/
structure OpM where
  kind : Int
  key : ByteArray
  found : Bool
  value : ByteArray
structure TxM where
  f0 : Int
  f1 : Int
  f2 : Int
  f3 : Int
  f4 : Int
  f5 : Int
  f6 : Int
  ops : List OpM
structure Ac where
  t : TxM
  ts : List Int
structure Sn where
  begun : Int
  act : Option Ac
structure Mm where
  flaw : Int
  clock : Int
  begun : Int
  ses : List Sn
  A : List En
  log : List TxM
structure Stp where
  kind : Int
  ses : Int
  gap : Int
  key : ByteArray
  value : ByteArray
structure An where
  found : Bool
  value : ByteArray
  status : Int
def z0 : OpM := ⟨0, ⟨#[]⟩, false, ⟨#[]⟩⟩
def sn0 : Sn := ⟨0, none⟩
def an0 : An := ⟨false, ⟨#[]⟩, 0⟩
instance : Inhabited OpM := ⟨z0⟩
instance : Inhabited Sn := ⟨sn0⟩
/-- A write or a delete of the key. -/
def isW (k : ByteArray) (o : OpM) : Bool := (o.key.toList == k.toList) && !(o.kind == 1)
/-- The last of the first n operations that is one. -/
def lw (l : List OpM) (k : ByteArray) : Nat → Option Nat
  | 0 => none
  | n + 1 => if isW k (l.getD n z0) = true then some n else lw l k n
def lastW (l : List OpM) (k : ByteArray) : Option Nat := lw l k l.length
theorem lw_some {l : List OpM} {k : ByteArray} {n i : Nat} (h : lw l k n = some i) : i < n ∧ isW k (l.getD i z0) = true ∧ ∀ j, i < j → j < n → isW k (l.getD j z0) = false := by
  induction n with
  | zero => cases h
  | succ n ih =>
    unfold lw at h
    split at h
    · rename_i h1
      cases h
      exact ⟨by omega, h1, fun j hj hj' => by omega⟩
    · rename_i h1
      obtain ⟨a, b, c⟩ := ih h
      refine ⟨by omega, b, fun j hj hj' => ?_⟩
      rcases Nat.lt_or_eq_of_le (Nat.le_of_lt_succ hj') with h2 | rfl
      · exact c j hj h2
      · simpa using h1
theorem lw_none {l : List OpM} {k : ByteArray} {n : Nat} : lw l k n = none ↔ ∀ j, j < n → isW k (l.getD j z0) = false := by
  induction n with
  | zero => simp [lw]
  | succ n ih =>
    unfold lw
    constructor
    · intro h
      split at h
      · cases h
      · rename_i h1
        intro j hj
        rcases Nat.lt_or_eq_of_le (Nat.le_of_lt_succ hj) with h2 | rfl
        · exact ih.1 h j h2
        · simpa using h1
    · intro h
      rw [if_neg (by rw [h n (by omega)]; decide)]
      exact ih.2 fun j hj => h j (by omega)
theorem lastW_lt {l : List OpM} {k : ByteArray} {i : Nat} (h : lastW l k = some i) : i < l.length := (lw_some h).1
/-- Of the first n operations those that are the last of their keys. -/
def oc (l : List OpM) : Nat → List OpM
  | 0 => []
  | n + 1 => oc l n ++ if lastW l (l.getD n z0).key = some n then [l.getD n z0] else []
def outc (l : List OpM) : List OpM := oc l l.length
theorem oc_length (l : List OpM) (n : Nat) : (oc l n).length ≤ n := by
  induction n with
  | zero => simp [oc]
  | succ n ih =>
    unfold oc
    rw [List.length_append]
    split <;> simp <;> omega
theorem oc_in {l : List OpM} (n : Nat) {o : OpM} : o ∈ oc l n ↔ ∃ i, i < n ∧ lastW l (l.getD i z0).key = some i ∧ o = l.getD i z0 := by
  induction n with
  | zero => simp [oc]
  | succ n ih =>
    unfold oc
    rw [List.mem_append, ih]
    constructor
    · rintro (⟨i, h1, h2⟩ | h)
      · exact ⟨i, by omega, h2⟩
      · split at h
        · rename_i h1
          rw [List.mem_singleton] at h
          exact ⟨n, by omega, h1, h⟩
        · cases h
    · rintro ⟨i, h1, h2, rfl⟩
      rcases Nat.lt_or_eq_of_le (Nat.le_of_lt_succ h1) with h3 | rfl
      · exact .inl ⟨i, h3, h2, rfl⟩
      · right
        rw [if_pos h2]
        simp
/-- Has one of the keys been committed behind the start? -/
def over (A : List En) (start : Int) (l : List OpM) : Bool := l.any fun o => (afM (ch A o.key) start).isSome
/-- The versions of a commit. -/
def insts (A : List En) (c n : Int) (l : List OpM) : List En := l.foldl (fun A o => inst A o.key ⟨c, n, o.found, o.value⟩) A
theorem insts_length (l : List OpM) (A : List En) (c n : Int) : (insts A c n l).length ≤ A.length + l.length := by
  induction l generalizing A with
  | nil => simp [insts]
  | cons o r ih =>
    have h1 := ih (inst A o.key ⟨c, n, o.found, o.value⟩)
    have h2 := inst_length A o.key ⟨c, n, o.found, o.value⟩
    simp only [insts, List.foldl_cons, List.length_cons] at *
    omega
theorem inst_mem {A : List En} {k : ByteArray} {x : Vn} {e : En} (h : e ∈ inst A k x) : e ∈ A ∨ e.x = x := by
  unfold Ytbjmdpfoeeadeaa.Ch.inst at h
  split at h
  · rcases List.mem_append.1 h with h | h
    · exact .inl h
    · rw [List.mem_singleton.1 h]
      exact .inr rfl
  · exact .inl h
theorem insts_mem {l : List OpM} {A : List En} {c n : Int} {e : En} (h : e ∈ insts A c n l) : e ∈ A ∨ (e.x.c = c ∧ e.x.w = n) := by
  induction l generalizing A with
  | nil => exact .inl h
  | cons o r ih =>
    rcases ih (A := inst A o.key ⟨c, n, o.found, o.value⟩) h with h | h
    · rcases inst_mem h with h | h
      · exact .inl h
      · rw [h]
        exact .inr ⟨rfl, rfl⟩
    · exact .inr h
theorem insts_snoc (l : List OpM) (o : OpM) (A : List En) (c n : Int) : insts A c n (l ++ [o]) = inst (insts A c n l) o.key ⟨c, n, o.found, o.value⟩ := by simp [insts, List.foldl_append]
/-- What a transaction sees of what is committed. -/
def comM (fl clock : Int) (A : List En) (k : ByteArray) (start : Int) : Vn :=
  match atM (ch A k) (if fl = 2 then clock else start) with
  | none => v0
  | some v => if fl = 3 then (atM (ch A k) (v.c - 1)).getD v0 else v
/-- The last write or delete of the key by the first n sessions' active transactions, and its time. -/
def drt (S : List Sn) (k : ByteArray) : Nat → OpM × Int
  | 0 => (z0, 0)
  | n + 1 => match (S.getD n sn0).act with
    | none => drt S k n
    | some a => match lastW a.t.ops k with
      | none => drt S k n
      | some i => if (drt S k n).2 < a.ts.getD i 0 then (a.t.ops.getD i z0, a.ts.getD i 0) else drt S k n
/-- What a read of a transaction finds. -/
def seeM (M : Mm) (t : TxM) (k : ByteArray) : Bool × ByteArray :=
  match lastW t.ops k with
  | some i => ((t.ops.getD i z0).found, (t.ops.getD i z0).value)
  | none => if M.flaw = 4 ∧ 0 < (drt M.ses k M.ses.length).2 then ((drt M.ses k M.ses.length).1.found, (drt M.ses k M.ses.length).1.value)
    else ((comM M.flaw M.clock M.A k t.f2).f, (comM M.flaw M.clock M.A k t.f2).v)

/-- The session's place. -/
def Mm.at (M : Mm) (i : Nat) : Sn := M.ses.getD i sn0
def Mm.tick (M : Mm) (c : Int) : Mm := { M with clock := c }
def beginM (M : Mm) (i : Nat) (invoke : Int) : Mm := { M with begun := M.begun + 1, ses := M.ses.set i ⟨(M.at i).begun + 1, some ⟨⟨i, (M.at i).begun, M.clock, 0, invoke, 0, 0, []⟩, []⟩⟩ }
def addO (a : Ac) (c : Int) (o : OpM) : Ac := ⟨⟨a.t.f0, a.t.f1, a.t.f2, a.t.f3, a.t.f4, a.t.f5, a.t.f6, a.t.ops ++ [o]⟩, a.ts ++ [c]⟩
def operM (M : Mm) (i : Nat) (a : Ac) (o : OpM) : Mm := { M with ses := M.ses.set i ⟨(M.at i).begun, some (addO a M.clock o)⟩ }
def endT (t : TxM) (c st : Int) : TxM := ⟨t.f0, t.f1, t.f2, c, t.f4, c, st, t.ops⟩
def finM (M : Mm) (i : Nat) (a : Ac) (st : Int) : Mm := { M with ses := M.ses.set i ⟨(M.at i).begun, none⟩, log := M.log ++ [endT a.t M.clock st] }
/-- Does a commit of it fail? -/
def lost (M : Mm) (a : Ac) : Bool := !(M.flaw == 1) && over M.A a.t.f2 (outc a.t.ops)
def comtM (M : Mm) (i : Nat) (a : Ac) : Mm := if lost M a = true then finM M i a 0 else finM { M with A := insts M.A M.clock M.log.length (outc a.t.ops) } i a 1
def comtA (M : Mm) (a : Ac) : An := ⟨false, ⟨#[]⟩, if lost M a = true then 0 else 1⟩

def isO (s : Stp) : Prop := s.kind = 2 ∨ s.kind = 3 ∨ s.kind = 4
instance (s : Stp) : Decidable (isO s) := by unfold isO; infer_instance
/-- Why a step can't be done: whatever was done before; now. -/
def codeB (n : Nat) (s : Stp) : Int :=
  if s.kind < 1 ∨ 6 < s.kind then 151 else if s.ses < 0 ∨ (n : Int) ≤ s.ses then 152 else if s.gap < 0 ∨ 1000 < s.gap then 153
  else if isO s ∧ (s.key.size = 0 ∨ 8 < s.key.size) then 130 else if s.kind = 3 ∧ 16 < s.value.size then 157 else 0
def opsN (o : Option Ac) : Nat := match o with
  | none => 0
  | some a => a.t.ops.length
def codeU (M : Mm) (s : Stp) : Int :=
  if s.kind = 1 ∧ (M.at s.ses.toNat).act.isSome = true then 155 else if s.kind ≠ 1 ∧ (M.at s.ses.toNat).act.isNone = true then 156 else if s.kind = 1 ∧ M.begun = 4096 then 71
  else if isO s ∧ opsN (M.at s.ses.toNat).act = 16 then 63 else if 1099511627776 < M.clock + 1 + s.gap then 154 else 0
def codeD (M : Mm) (s : Stp) : Int := if codeB M.ses.length s ≠ 0 then codeB M.ses.length s else codeU M s
def opW (s : Stp) : OpM := ⟨2, s.key, true, s.value⟩
def opD (s : Stp) : OpM := ⟨3, s.key, false, ⟨#[]⟩⟩
def opR (s : Stp) (x : Bool × ByteArray) : OpM := ⟨1, s.key, x.1, x.2⟩
/-- What a step that is carried out leaves and answers; M with the clock set on already; c: the clock ahead of it. -/
def goM (M : Mm) (c : Int) (s : Stp) : Mm × An :=
  match (M.at s.ses.toNat).act with
  | none => (beginM M s.ses.toNat c, an0)
  | some a => if s.kind = 2 then (operM M s.ses.toNat a (opR s (seeM M a.t s.key)), ⟨(seeM M a.t s.key).1, (seeM M a.t s.key).2, 0⟩)
    else if s.kind = 3 then (operM M s.ses.toNat a (opW s), an0)
    else if s.kind = 4 then (operM M s.ses.toNat a (opD s), an0)
    else if s.kind = 5 then (comtM M s.ses.toNat a, comtA M a)
    else (finM M s.ses.toNat a 0, an0)
def doM (M : Mm) (s : Stp) : Mm × An := if codeD M s = 0 then goM (M.tick (M.clock + 1 + s.gap)) M.clock s else (M, an0)

/-- How many are active. -/
def acts (S : List Sn) : Nat := S.countP fun s => s.act.isSome
theorem acts_set {S : List Sn} {i : Nat} (h : i < S.length) (s : Sn) : acts (S.set i s) + (if (S.getD i sn0).act.isSome = true then 1 else 0) = acts S + (if s.act.isSome = true then 1 else 0) := by
  induction S generalizing i with
  | nil => simp at h
  | cons a r ih =>
    cases i with
    | zero => simp only [acts, List.set_cons_zero, List.countP_cons, List.getD_cons_zero]; omega
    | succ i =>
      have := ih (i := i) (by simpa using h)
      simp only [acts, List.set_cons_succ, List.countP_cons, List.getD_cons_succ] at *
      omega
/-- What stands of an active transaction. -/
structure AcI (c : Int) (a : Ac) : Prop where
  n : a.t.ops.length ≤ 16
  ts : a.ts.length = a.t.ops.length
  pos : ∀ x ∈ a.ts, 0 < x ∧ x ≤ c
  key : ∀ o ∈ a.t.ops, 0 < o.key.size ∧ o.key.size ≤ 8 ∧ (o.kind ≠ 1 → o.value.size ≤ 16 ∧ (o.found = true ∨ o.value.size = 0))
/-- What stands of a machine. -/
structure Inv (M : Mm) : Prop where
  c0 : 0 ≤ M.clock
  c1 : M.clock ≤ 1099511627776
  b0 : 0 ≤ M.begun
  b1 : M.begun ≤ 4096
  sb : ∀ i, i < M.ses.length → 0 ≤ (M.at i).begun ∧ (M.at i).begun ≤ M.begun
  cnt : (M.log.length : Int) + acts M.ses = M.begun
  ac : ∀ i a, (M.at i).act = some a → AcI M.clock a
  al : M.A.length ≤ 16 * M.log.length
  av : ∀ e ∈ M.A, 0 ≤ e.x.c ∧ e.x.c ≤ M.clock
  lg : ∀ t ∈ M.log, t.ops.length ≤ 16
  s0 : 1 ≤ M.ses.length
  s1 : M.ses.length ≤ 64
theorem at_set {S : List Sn} {i j : Nat} (hi : i < S.length) (s : Sn) : (S.set i s).getD j sn0 = if i = j then s else S.getD j sn0 := by
  simp only [List.getD_eq_getElem?_getD, List.getElem?_set]
  split
  · subst_vars
    rfl
  · rfl
theorem at_lt {M : Mm} {i : Nat} {a : Ac} (h : (M.at i).act = some a) : i < M.ses.length := by
  refine Classical.byContradiction fun hn => ?_
  unfold Mm.at at h
  rw [List.getD_eq_getElem?_getD, List.getElem?_eq_none (by omega)] at h
  cases h
theorem acts_pos {S : List Sn} {i : Nat} (hi : i < S.length) (h : (S.getD i sn0).act.isSome = true) : 0 < acts S := by
  unfold acts
  rw [List.countP_pos_iff]
  exact ⟨S.getD i sn0, by rw [List.getD_eq_getElem?_getD, List.getElem?_eq_getElem hi]; simp, h⟩
theorem AcI.mono {c c' : Int} {a : Ac} (h : AcI c a) (hc : c ≤ c') : AcI c' a := ⟨h.n, h.ts, fun x hx => ⟨(h.pos x hx).1, Int.le_trans (h.pos x hx).2 hc⟩, h.key⟩
theorem Inv.tick {M : Mm} (h : Inv M) {c : Int} (h0 : M.clock ≤ c) (h1 : c ≤ 1099511627776) : Inv (M.tick c) :=
  ⟨Int.le_trans h.c0 h0, h1, h.b0, h.b1, h.sb, h.cnt, fun i a ha => (h.ac i a ha).mono h0, h.al, fun e he => ⟨(h.av e he).1, Int.le_trans (h.av e he).2 h0⟩, h.lg, h.s0, h.s1⟩
/-- A session turned. -/
theorem Inv.ses {M : Mm} (h : Inv M) {i : Nat} (hi : i < M.ses.length) {s : Sn} {b : Int} {L : List TxM} {A : List En} (hb : M.begun ≤ b) (hb1 : b ≤ 4096) (hs : 0 ≤ s.begun ∧ s.begun ≤ b) (hc : (L.length : Int) + acts (M.ses.set i s) = b)
    (ha : ∀ a, s.act = some a → AcI M.clock a) (hA : A.length ≤ 16 * L.length) (hv : ∀ e ∈ A, 0 ≤ e.x.c ∧ e.x.c ≤ M.clock) (hL : ∀ t ∈ L, t.ops.length ≤ 16) : Inv { M with begun := b, ses := M.ses.set i s, log := L, A := A } where
  c0 := h.c0
  c1 := h.c1
  b0 := Int.le_trans h.b0 hb
  b1 := hb1
  sb := fun j hj => by
    have hj' : j < M.ses.length := by simpa using hj
    have e : (M.ses.set i s).getD j sn0 = _ := at_set hi s
    simp only [Mm.at, e]
    split
    · exact hs
    · exact ⟨(h.sb j hj').1, Int.le_trans (h.sb j hj').2 hb⟩
  cnt := hc
  ac := fun j a hj => by
    have e : (M.ses.set i s).getD j sn0 = _ := at_set hi s
    simp only [Mm.at, e] at hj
    split at hj
    · exact ha a hj
    · exact h.ac j a hj
  al := hA
  av := hv
  lg := hL
  s0 := by simpa using h.s0
  s1 := by simpa using h.s1
theorem Inv.begin {M : Mm} (h : Inv M) {i : Nat} (hi : i < M.ses.length) (hn : (M.at i).act = none) (hb : M.begun ≠ 4096) (v : Int) : Inv (beginM M i v) := by
  have h1 := h.b1
  have h2 := h.sb i hi
  have h3 := acts_set hi ⟨(M.at i).begun + 1, some ⟨⟨i, (M.at i).begun, M.clock, 0, v, 0, 0, []⟩, []⟩⟩
  have h4 := h.cnt
  have hn' : (M.ses.getD i sn0).act = none := hn
  rw [hn'] at h3
  simp only [Option.isSome_none, Option.isSome_some, if_true, Bool.false_eq_true, if_false] at h3
  refine h.ses hi (b := M.begun + 1) (L := M.log) (A := M.A) (by omega) (by omega) ⟨by simp only; omega, by simp only; omega⟩ (by omega) (fun a ha => ?_) h.al h.av h.lg
  cases ha
  exact ⟨by simp, by simp, fun x hx => (by cases hx), fun x hx => (by cases hx)⟩
theorem Inv.oper {M : Mm} (h : Inv M) {i : Nat} {a : Ac} (ha : (M.at i).act = some a) (hc : 0 < M.clock) (hn : a.t.ops.length ≠ 16) (o : OpM) (ho : 0 < o.key.size ∧ o.key.size ≤ 8 ∧ (o.kind ≠ 1 → o.value.size ≤ 16 ∧ (o.found = true ∨ o.value.size = 0))) : Inv (operM M i a o) := by
  have hi := at_lt ha
  have hq := h.ac i a ha
  have h3 := acts_set hi ⟨(M.at i).begun, some (addO a M.clock o)⟩
  have ha' : (M.ses.getD i sn0).act = some a := ha
  rw [ha'] at h3
  simp only [Option.isSome_some, if_true] at h3
  have h4 := h.cnt
  have hn2 := hq.n
  refine h.ses hi (s := ⟨(M.at i).begun, some (addO a M.clock o)⟩) (b := M.begun) (L := M.log) (A := M.A) (Int.le_refl _) h.b1 (h.sb i hi) (by omega) (fun a' ha' => ?_) h.al h.av h.lg
  cases ha'
  refine ⟨by simp only [addO, List.length_append, List.length_cons, List.length_nil]; omega, by simp [addO, hq.ts], fun x hx => ?_, fun x hx => ?_⟩
  · rcases List.mem_append.1 hx with hx | hx
    · exact hq.pos x hx
    · cases List.mem_singleton.1 hx
      exact ⟨hc, Int.le_refl _⟩
  · rcases List.mem_append.1 hx with hx | hx
    · exact hq.key x hx
    · cases List.mem_singleton.1 hx
      exact ho
theorem Inv.log_lt {M : Mm} (h : Inv M) {i : Nat} {a : Ac} (ha : (M.at i).act = some a) : M.log.length < 4096 := by
  have hi := at_lt ha
  have h3 := acts_pos hi (by have ha' : (M.ses.getD i sn0).act = some a := ha; rw [ha']; rfl)
  have h4 := h.cnt
  have h5 := h.b1
  omega
theorem Inv.fin {M : Mm} (h : Inv M) {i : Nat} {a : Ac} (ha : (M.at i).act = some a) (st : Int) {A : List En} (hA : A.length ≤ M.A.length + 16) (hv : ∀ e ∈ A, 0 ≤ e.x.c ∧ e.x.c ≤ M.clock) : Inv (finM { M with A := A } i a st) := by
  have hi := at_lt ha
  have h3 := acts_set hi ⟨(M.at i).begun, none⟩
  have ha' : (M.ses.getD i sn0).act = some a := ha
  rw [ha'] at h3
  simp only [Option.isSome_some, Option.isSome_none, if_true, Bool.false_eq_true, if_false] at h3
  have h4 := h.cnt
  have h5 := h.al
  exact h.ses hi (s := ⟨(M.at i).begun, none⟩) (b := M.begun) (L := M.log ++ [endT a.t M.clock st]) (A := A) (Int.le_refl _) h.b1 (h.sb i hi) (by simp only [List.length_append, List.length_cons, List.length_nil]; omega) (fun a' ha' => by cases ha') (by simp only [List.length_append, List.length_cons, List.length_nil]; omega) hv fun t ht => by
    rcases List.mem_append.1 ht with ht | ht
    · exact h.lg t ht
    · rw [List.mem_singleton.1 ht]
      exact (h.ac i a ha).n
theorem Inv.comt {M : Mm} (h : Inv M) {i : Nat} {a : Ac} (ha : (M.at i).act = some a) : Inv (comtM M i a) := by
  unfold comtM
  split
  · exact h.fin ha 0 (A := M.A) (by omega) h.av
  · have h1 := insts_length (outc a.t.ops) M.A M.clock M.log.length
    have h2 := oc_length a.t.ops a.t.ops.length
    have h3 := (h.ac i a ha).n
    exact h.fin ha 1 (by unfold outc at h1 ⊢; omega) fun e he => by
      rcases insts_mem he with he | ⟨he, -⟩
      · exact h.av e he
      · rw [he]
        exact ⟨h.c0, Int.le_refl _⟩
theorem codeB_zero {n : Nat} {s : Stp} (h : codeB n s = 0) : (1 ≤ s.kind ∧ s.kind ≤ 6) ∧ (0 ≤ s.ses ∧ s.ses < n) ∧ (0 ≤ s.gap ∧ s.gap ≤ 1000) ∧ (isO s → 0 < s.key.size ∧ s.key.size ≤ 8) ∧ (s.kind = 3 → s.value.size ≤ 16) := by
  unfold codeB at h
  split at h
  · cases h
  split at h
  · cases h
  split at h
  · cases h
  split at h
  · cases h
  split at h
  · cases h
  rename_i h1 h2 h3 h4 h5
  refine ⟨by omega, by omega, by omega, fun ho => ?_, fun hk => ?_⟩
  · have : ¬ (s.key.size = 0 ∨ 8 < s.key.size) := fun h => h4 ⟨ho, h⟩
    omega
  · have : ¬ (16 < s.value.size) := fun h => h5 ⟨hk, h⟩
    omega
theorem codeU_zero {M : Mm} {s : Stp} (h : codeU M s = 0) : (s.kind = 1 → (M.at s.ses.toNat).act = none ∧ M.begun ≠ 4096) ∧ (s.kind ≠ 1 → ∃ a, (M.at s.ses.toNat).act = some a ∧ (isO s → a.t.ops.length ≠ 16)) ∧ M.clock + 1 + s.gap ≤ 1099511627776 := by
  unfold codeU at h
  split at h
  · cases h
  split at h
  · cases h
  split at h
  · cases h
  split at h
  · cases h
  split at h
  · cases h
  rename_i h1 h2 h3 h4 h5
  refine ⟨fun hk => ⟨?_, fun hb => h3 ⟨hk, hb⟩⟩, fun hk => ?_, by omega⟩
  · cases e : (M.at s.ses.toNat).act with
    | none => rfl
    | some a => exact absurd ⟨hk, by rw [e]; rfl⟩ h1
  · cases e : (M.at s.ses.toNat).act with
    | none => exact absurd ⟨hk, by rw [e]; rfl⟩ h2
    | some a => exact ⟨a, rfl, fun ho hn => h4 ⟨ho, by rw [e]; exact hn⟩⟩
theorem codeD_zero {M : Mm} {s : Stp} (h : codeD M s = 0) : codeB M.ses.length s = 0 ∧ codeU M s = 0 := by
  unfold codeD at h
  split at h
  · contradiction
  · rename_i h1
    exact ⟨by simpa using h1, h⟩
theorem Inv.go {M : Mm} (h : Inv M) {s : Stp} (h0 : codeD M s = 0) : Inv (goM (M.tick (M.clock + 1 + s.gap)) M.clock s).1 := by
  obtain ⟨hB, hU⟩ := codeD_zero h0
  obtain ⟨b1, b2, b3, b4, b5⟩ := codeB_zero hB
  obtain ⟨u1, u2, u3⟩ := codeU_zero hU
  have hc := h.c0
  have ht : Inv (M.tick (M.clock + 1 + s.gap)) := h.tick (by omega) u3
  have hcl : 0 < (M.tick (M.clock + 1 + s.gap)).clock := by simp only [Mm.tick]; omega
  have hi : s.ses.toNat < M.ses.length := by omega
  unfold goM
  cases e : ((M.tick (M.clock + 1 + s.gap)).at s.ses.toNat).act with
  | none =>
    have hk : s.kind = 1 := Classical.byContradiction fun hk => by
      obtain ⟨a, ha, -⟩ := u2 hk
      have e' : (M.at s.ses.toNat).act = none := e
      rw [e'] at ha; cases ha
    exact ht.begin hi e (u1 hk).2 _
  | some a =>
    have hk : s.kind ≠ 1 := fun hk => by
      have e' : (M.at s.ses.toNat).act = some a := e
      rw [(u1 hk).1] at e'; cases e'
    have hn : isO s → a.t.ops.length ≠ 16 := by
      obtain ⟨a', ha, hn⟩ := u2 hk
      have e' : (M.at s.ses.toNat).act = some a := e
      rw [e'] at ha; cases ha
      exact hn
    simp only
    split
    · rename_i h2
      exact ht.oper e hcl (hn (.inl h2)) _ ⟨(b4 (.inl h2)).1, (b4 (.inl h2)).2, fun hk => absurd rfl hk⟩
    split
    · rename_i h2
      exact ht.oper e hcl (hn (.inr (.inl h2))) _ ⟨(b4 (.inr (.inl h2))).1, (b4 (.inr (.inl h2))).2, fun _ => ⟨b5 h2, .inl rfl⟩⟩
    split
    · rename_i h2
      exact ht.oper e hcl (hn (.inr (.inr h2))) _ ⟨(b4 (.inr (.inr h2))).1, (b4 (.inr (.inr h2))).2, fun _ => ⟨Nat.zero_le _, .inr rfl⟩⟩
    split
    · exact ht.comt e
    · exact ht.fin e 0 (A := M.A) (by simp only [Mm.tick]; omega) ht.av
theorem Inv.step {M : Mm} (h : Inv M) (s : Stp) : Inv (doM M s).1 := by
  unfold doM
  split
  · exact h.go ‹_›
  · exact h
def newM (n : Nat) (fl : Int) : Mm := ⟨fl, 0, 0, List.replicate n sn0, [], []⟩
theorem at_new (n : Nat) (fl : Int) (i : Nat) : (newM n fl).at i = sn0 := by
  simp only [newM, Mm.at, List.getD_eq_getElem?_getD, List.getElem?_replicate]
  split <;> rfl
theorem Inv.new {n : Nat} (h0 : 1 ≤ n) (h1 : n ≤ 64) (fl : Int) : Inv (newM n fl) where
  c0 := Int.le_refl _
  c1 := by simp [newM]
  b0 := Int.le_refl _
  b1 := by simp [newM]
  sb := fun i _ => by rw [at_new]; exact ⟨Int.le_refl _, Int.le_refl _⟩
  cnt := by
    have : acts (List.replicate n sn0) = 0 := by
      unfold acts
      rw [List.countP_eq_zero]
      intro a ha
      rw [List.eq_of_mem_replicate ha]
      decide
    simp [newM, this]
  ac := fun i a ha => by rw [at_new] at ha; cases ha
  al := by simp [newM]
  av := fun e he => by cases he
  lg := fun t ht => by cases ht
  s0 := by simpa [newM] using h0
  s1 := by simpa [newM] using h1
end Go.Proofs.Ytbjmdpfoeeadeaa.Ch.Mc

namespace Go.Proofs.Ytbjmdpfoeeadeaa.Ch.Mc

abbrev e0 : ByteArray := ⟨#[]⟩
/-- What a list of steps leaves. -/
def plM (M : Mm) (l : List Stp) : Mm := l.foldl (fun M s => (doM M s).1) M
theorem plM_take {l : List Stp} {j : Nat} {s : Stp} (h : l[j]? = some s) (M : Mm) : plM M (l.take (j + 1)) = (doM (plM M (l.take j)) s).1 := by
  rw [List.take_add_one, h]
  simp [plM, List.foldl_append]
theorem insts_app (l : List OpM) (A : List En) (c n : Int) : ∃ B, insts A c n l = A ++ B ∧ ∀ e ∈ B, e.x.c = c := by
  induction l generalizing A with
  | nil => exact ⟨[], by simp [insts], fun e he => by cases he⟩
  | cons o r ih =>
    obtain ⟨B, h1, h2⟩ := ih (inst A o.key ⟨c, n, o.found, o.value⟩)
    have e : insts A c n (o :: r) = insts (inst A o.key ⟨c, n, o.found, o.value⟩) c n r := rfl
    rw [e, h1]
    unfold Ytbjmdpfoeeadeaa.Ch.inst
    split
    · refine ⟨⟨o.key, ⟨c, n, o.found, o.value⟩⟩ :: B, by simp, fun e he => ?_⟩
      rcases List.mem_cons.1 he with rfl | he
      · rfl
      · exact h2 e he
    · exact ⟨B, rfl, h2⟩
/-- What any step does: nothing, or it turns its own session, sets the clock on and lays versions of its time behind the others. -/
structure StR (M : Mm) (s : Stp) (M' : Mm) : Prop where
  i : s.ses.toNat < M.ses.length
  nn : 0 ≤ s.ses
  ses : ∃ sn, M'.ses = M.ses.set s.ses.toNat sn
  clock : M'.clock = M.clock + 1 + s.gap
  gap : 0 ≤ s.gap
  flaw : M'.flaw = M.flaw
  A : ∃ B, M'.A = M.A ++ B ∧ ∀ e ∈ B, e.x.c = M'.clock
theorem do_rel (M : Mm) (s : Stp) : (doM M s).1 = M ∨ StR M s (doM M s).1 := by
  by_cases h : codeD M s = 0
  · right
    obtain ⟨hB, -⟩ := codeD_zero h
    obtain ⟨-, b2, b3, -, -⟩ := codeB_zero hB
    have e : (doM M s).1 = (goM (M.tick (M.clock + 1 + s.gap)) M.clock s).1 := by unfold doM; rw [if_pos h]
    rw [e]
    have hA : ∃ B, M.A = M.A ++ B ∧ ∀ e ∈ B, e.x.c = M.clock + 1 + s.gap := ⟨[], by simp, fun e he => by cases he⟩
    unfold goM
    split
    · exact ⟨by omega, b2.1, ⟨_, rfl⟩, rfl, b3.1, rfl, hA⟩
    · split
      · exact ⟨by omega, b2.1, ⟨_, rfl⟩, rfl, b3.1, rfl, hA⟩
      split
      · exact ⟨by omega, b2.1, ⟨_, rfl⟩, rfl, b3.1, rfl, hA⟩
      split
      · exact ⟨by omega, b2.1, ⟨_, rfl⟩, rfl, b3.1, rfl, hA⟩
      split
      · unfold comtM
        split
        · exact ⟨by omega, b2.1, ⟨_, rfl⟩, rfl, b3.1, rfl, hA⟩
        · exact ⟨by omega, b2.1, ⟨_, rfl⟩, rfl, b3.1, rfl, insts_app _ _ _ _⟩
      · exact ⟨by omega, b2.1, ⟨_, rfl⟩, rfl, b3.1, rfl, hA⟩
  · left
    unfold doM
    rw [if_neg h]
theorem StR.at_ne {M M' : Mm} {s : Stp} (h : StR M s M') {j : Nat} (hj : s.ses ≠ (j : Int)) : M'.at j = M.at j := by
  obtain ⟨sn, hs⟩ := h.ses
  unfold Mm.at
  rw [hs, at_set h.i, if_neg]
  have := h.nn
  omega
theorem StR.len {M M' : Mm} {s : Stp} (h : StR M s M') : M'.ses.length = M.ses.length := by
  obtain ⟨sn, hs⟩ := h.ses
  rw [hs]
  simp
theorem do_len (M : Mm) (s : Stp) : (doM M s).1.ses.length = M.ses.length := by
  rcases do_rel M s with h | h
  · rw [h]
  · exact h.len
theorem do_flaw (M : Mm) (s : Stp) : (doM M s).1.flaw = M.flaw := by
  rcases do_rel M s with h | h
  · rw [h]
  · exact h.flaw
/-- What stands of a machine without a flaw in so many sessions. -/
structure Ok (n : Nat) (M : Mm) : Prop where
  inv : Inv M
  len : M.ses.length = n
  fl : M.flaw = 0
theorem Ok.step {n : Nat} {M : Mm} (h : Ok n M) (s : Stp) : Ok n (doM M s).1 := ⟨h.inv.step s, (do_len M s).trans h.len, (do_flaw M s).trans h.fl⟩
theorem Ok.new {n : Nat} (h0 : 1 ≤ n) (h1 : n ≤ 64) : Ok n (newM n 0) := ⟨Inv.new h0 h1 0, by simp [newM], rfl⟩
/-- A step of session i that nothing but the clock may speak against. -/
theorem code_at {M : Mm} {kd : Int} {i : Nat} {k v : ByteArray} (h1 : 1 ≤ kd ∧ kd ≤ 6) (hi : i < M.ses.length) (hk : isO ⟨kd, i, 0, k, v⟩ → 0 < k.size ∧ k.size ≤ 8) (hv : kd = 3 → v.size ≤ 16) (ha : kd = 1 → (M.at i).act = none ∧ M.begun ≠ 4096) (hb : kd ≠ 1 → ∃ a, (M.at i).act = some a ∧ (isO ⟨kd, i, 0, k, v⟩ → a.t.ops.length ≠ 16)) :
    codeD M ⟨kd, i, 0, k, v⟩ = if 1099511627776 < M.clock + 1 then 154 else 0 := by
  have hB : codeB M.ses.length ⟨kd, i, 0, k, v⟩ = 0 := by
    unfold codeB
    rw [if_neg (by simp only; omega), if_neg (by simp only; omega), if_neg (by simp only; omega), if_neg (fun h => by have := hk h.1; have h2 := h.2; simp only at h2; omega), if_neg (fun h => by have := hv h.1; have h2 := h.2; simp only at h2; omega)]
  unfold codeD
  rw [if_neg (fun h => h hB)]
  unfold codeU
  simp only [Int.toNat_natCast, Int.add_zero]
  by_cases hk1 : kd = 1
  · obtain ⟨e1, e2⟩ := ha hk1
    rw [e1, if_neg (fun h => by cases h.2), if_neg (fun h => h.1 hk1), if_neg (fun h => e2 h.2), if_neg (fun h => by have := h.2; simp [opsN] at this)]
  · obtain ⟨a, e1, e2⟩ := hb hk1
    rw [e1, if_neg (fun h => hk1 h.1), if_neg (fun h => by cases h.2), if_neg (fun h => hk1 h.1), if_neg (fun h => e2 h.1 h.2)]
theorem do_ok {M : Mm} {s : Stp} (h : codeD M s = 0) : doM M s = goM (M.tick (M.clock + 1 + s.gap)) M.clock s := by unfold doM; rw [if_pos h]
theorem do_no {M : Mm} {s : Stp} (h : codeD M s ≠ 0) : doM M s = (M, an0) := by unfold doM; rw [if_neg h]
theorem go_begin {M : Mm} {c : Int} {i : Nat} {k v : ByteArray} (h : (M.at i).act = none) : goM M c ⟨1, i, 0, k, v⟩ = (beginM M i c, an0) := by
  unfold goM
  simp only [Int.toNat_natCast]
  rw [h]
theorem go_read {M : Mm} {c : Int} {i : Nat} {k v : ByteArray} {a : Ac} (h : (M.at i).act = some a) : goM M c ⟨2, i, 0, k, v⟩ = (operM M i a ⟨1, k, (seeM M a.t k).1, (seeM M a.t k).2⟩, ⟨(seeM M a.t k).1, (seeM M a.t k).2, 0⟩) := by
  unfold goM
  simp only [Int.toNat_natCast]
  rw [h]
  rfl
theorem go_write {M : Mm} {c : Int} {i : Nat} {k v : ByteArray} {a : Ac} (h : (M.at i).act = some a) : goM M c ⟨3, i, 0, k, v⟩ = (operM M i a ⟨2, k, true, v⟩, an0) := by
  unfold goM
  simp only [Int.toNat_natCast]
  rw [h]
  rfl
theorem go_del {M : Mm} {c : Int} {i : Nat} {k v : ByteArray} {a : Ac} (h : (M.at i).act = some a) : goM M c ⟨4, i, 0, k, v⟩ = (operM M i a ⟨3, k, false, e0⟩, an0) := by
  unfold goM
  simp only [Int.toNat_natCast]
  rw [h]
  rfl
theorem go_commit {M : Mm} {c : Int} {i : Nat} {k v : ByteArray} {a : Ac} (h : (M.at i).act = some a) : goM M c ⟨5, i, 0, k, v⟩ = (comtM M i a, comtA M a) := by
  unfold goM
  simp only [Int.toNat_natCast]
  rw [h]
  rfl
theorem go_abort {M : Mm} {c : Int} {i : Nat} {k v : ByteArray} {a : Ac} (h : (M.at i).act = some a) : goM M c ⟨6, i, 0, k, v⟩ = (finM M i a 0, an0) := by
  unfold goM
  simp only [Int.toNat_natCast]
  rw [h]
  rfl
/-- The last operation. -/
theorem lastW_snoc {l : List OpM} {o : OpM} {k : ByteArray} : lastW (l ++ [o]) k = if isW k o = true then some l.length else lastW l k := by
  unfold lastW
  rw [List.length_append]
  show lw (l ++ [o]) k (l.length + 1) = _
  rw [lw]
  have e : (l ++ [o]).getD l.length z0 = o := by rw [List.getD_eq_getElem?_getD, List.getElem?_append_right (Nat.le_refl _)]; simp
  rw [e]
  split
  · rfl
  · have : ∀ n, n ≤ l.length → lw (l ++ [o]) k n = lw l k n := fun n hn => by
      induction n with
      | zero => rfl
      | succ n ih =>
        have e : (l ++ [o]).getD n z0 = l.getD n z0 := by rw [List.getD_eq_getElem?_getD, List.getD_eq_getElem?_getD, List.getElem?_append_left (by omega)]
        rw [lw, lw, e, ih (by omega)]
    exact this _ (Nat.le_refl _)
theorem isW_self {k : ByteArray} {o : OpM} (h1 : o.key = k) (h2 : o.kind ≠ 1) : isW k o = true := by unfold isW; rw [h1]; simp [h2]
theorem outc_one {o : OpM} (h : o.kind ≠ 1) : outc [o] = [o] := by
  have e : lastW [o] o.key = some 0 := by
    have := lastW_snoc (l := []) (o := o) (k := o.key)
    rw [if_pos (isW_self rfl h)] at this
    exact this
  show oc [o] 1 = [o]
  rw [oc, oc]
  have e2 : [o].getD 0 z0 = o := rfl
  rw [e2, if_pos e]
  rfl
end Go.Proofs.Ytbjmdpfoeeadeaa.Ch.Mc

namespace Go.Proofs.Ytbjmdpfoeeadeaa.Ch.Mc

/-- A transaction of the document's: its state, its times; the machine. -/
structure Rn where
  t : TxM
  st : Int
  ts : List Int
structure Rr where
  clock : Int
  all : List Rn
  ends : List Nat
def t0 : TxM := ⟨0, 0, 0, 0, 0, 0, 0, []⟩
def rn0 : Rn := ⟨t0, 0, []⟩
instance : Inhabited Rn := ⟨rn0⟩
/-- A place, or -1. -/
def ix : Option Nat → Int
  | none => -1
  | some i => (i : Int)
theorem ix_nn (o : Option Nat) : 0 ≤ ix o ↔ o.isSome = true := by
  cases o with
  | none => simp [ix]
  | some i => simp [ix]
def gR (l : List Rn) (i : Nat) : Rn := l.getD i rn0
theorem gR_of {l : List Rn} {i : Nat} {r : Rn} (h : l[i]? = some r) : gR l i = r := by
  unfold gR
  rw [List.getD_eq_getElem?_getD, h]
  rfl
theorem gR_at {l : List Rn} {i : Nat} (h : i < l.length) : l[i]? = some (gR l i) := by
  unfold gR
  rw [List.getD_eq_getElem?_getD, List.getElem?_eq_getElem h]
  rfl
/-- A session's active transaction. -/
def isA (se : Int) (r : Rn) : Bool := (r.st == 0) && (r.t.f0 == se)
def rAct (l : List Rn) (se : Int) : Option Nat := l.findIdx? (isA se)
theorem rAct_some {l : List Rn} {se : Int} {i : Nat} {r : Rn} (h : l[i]? = some r) (hr : isA se r = true) (hn : ∀ (j : Nat) (r' : Rn), j < i → l[j]? = some r' → isA se r' = false) : rAct l se = some i := by
  unfold rAct
  rw [List.findIdx?_eq_some_iff_getElem]
  obtain ⟨h1, h2⟩ := List.getElem?_eq_some_iff.1 h
  refine ⟨h1, by rw [h2]; exact hr, fun j hj => ?_⟩
  have := hn j _ hj (List.getElem?_eq_getElem (by omega))
  simpa using this
theorem rAct_none {l : List Rn} {se : Int} (hn : ∀ (j : Nat) (r' : Rn), l[j]? = some r' → isA se r' = false) : rAct l se = none := by
  unfold rAct
  rw [List.findIdx?_eq_none_iff]
  intro r hr
  obtain ⟨j, hj⟩ := List.getElem?_of_mem hr
  simpa using hn j r hj
theorem rAct_in {l : List Rn} {se : Int} {i : Nat} (h : rAct l se = some i) : ∃ r, l[i]? = some r ∧ isA se r = true := by
  unfold rAct at h
  rw [List.findIdx?_eq_some_iff_getElem] at h
  obtain ⟨h1, h2, -⟩ := h
  exact ⟨_, List.getElem?_eq_getElem h1, h2⟩
theorem rAct_out {l : List Rn} {se : Int} (h : rAct l se = none) {j : Nat} {r : Rn} (hj : l[j]? = some r) : isA se r = false := by
  unfold rAct at h
  rw [List.findIdx?_eq_none_iff] at h
  simpa using h r (List.mem_of_getElem? hj)
/-- Seen at a time: committed by then, with a write of the key. -/
def vis (k : ByteArray) (time : Int) (r : Rn) : Bool := (r.st == 1) && (r.t.f6 == 1) && decide (r.t.f3 ≤ time) && (lastW r.t.ops k).isSome
def bt (l : List Rn) (o : Option Nat) (e : Int) : Bool := match o with
  | none => true
  | some b => decide ((gR l b).t.f3 < e)
def rSeen (l : List Rn) (k : ByteArray) (time : Int) : Nat → Option Nat
  | 0 => none
  | n + 1 => if (vis k time (gR l n) && bt l (rSeen l k time n) (gR l n).t.f3) = true then some n else rSeen l k time n
abbrev rSee (l : List Rn) (k : ByteArray) (time : Int) : Option Nat := rSeen l k time l.length
theorem rSeen_spec (l : List Rn) (k : ByteArray) (time : Int) (n : Nat) : (rSeen l k time n = none ∧ ∀ i, i < n → vis k time (gR l i) = false) ∨ ∃ b, rSeen l k time n = some b ∧ b < n ∧ vis k time (gR l b) = true ∧ ∀ i, i < n → vis k time (gR l i) = true → (gR l i).t.f3 ≤ (gR l b).t.f3 := by
  induction n with
  | zero => exact .inl ⟨rfl, fun i hi => by omega⟩
  | succ n ih =>
    rw [rSeen]
    rcases ih with ⟨h1, h2⟩ | ⟨b, h1, h2, h3, h4⟩
    · rw [h1]
      by_cases hv : vis k time (gR l n) = true
      · rw [if_pos (by rw [hv]; rfl)]
        refine .inr ⟨n, rfl, by omega, hv, fun i hi hvi => ?_⟩
        rcases Nat.lt_or_eq_of_le (Nat.le_of_lt_succ hi) with h | rfl
        · rw [h2 i h] at hvi; cases hvi
        · exact Int.le_refl _
      · rw [if_neg (by simp [hv])]
        refine .inl ⟨rfl, fun i hi => ?_⟩
        rcases Nat.lt_or_eq_of_le (Nat.le_of_lt_succ hi) with h | rfl
        · exact h2 i h
        · simpa using hv
    · rw [h1]
      by_cases hv : (vis k time (gR l n) && bt l (some b) (gR l n).t.f3) = true
      · rw [if_pos hv]
        simp only [Bool.and_eq_true, bt, decide_eq_true_eq] at hv
        refine .inr ⟨n, rfl, by omega, hv.1, fun i hi hvi => ?_⟩
        rcases Nat.lt_or_eq_of_le (Nat.le_of_lt_succ hi) with h | rfl
        · have := h4 i h hvi; omega
        · exact Int.le_refl _
      · rw [if_neg hv]
        refine .inr ⟨b, rfl, by omega, h3, fun i hi hvi => ?_⟩
        rcases Nat.lt_or_eq_of_le (Nat.le_of_lt_succ hi) with h | rfl
        · exact h4 i h hvi
        · simp only [Bool.and_eq_true, bt, decide_eq_true_eq, not_and] at hv
          have := hv hvi
          omega
/-- What a transaction's version of a key holds. -/
def opL (t : TxM) (k : ByteArray) : OpM := match lastW t.ops k with
  | none => z0
  | some i => t.ops.getD i z0
def rHeld (l : List Rn) (o : Option Nat) (k : ByteArray) : Bool × ByteArray := match o with
  | none => (false, e0)
  | some b => ((opL (gR l b).t k).found, (opL (gR l b).t k).value)
/-- The active one other than i whose operation left the key last; and when. -/
def rDirt (l : List Rn) (i : Nat) (k : ByteArray) : Nat → Option Nat × Int
  | 0 => (none, -1)
  | n + 1 => match lastW (gR l n).t.ops k with
    | none => rDirt l i k n
    | some o => if n ≠ i ∧ (gR l n).st = 0 ∧ (rDirt l i k n).2 < (gR l n).ts.getD o 0 then (some n, (gR l n).ts.getD o 0) else rDirt l i k n
def rRead (fl clock : Int) (l : List Rn) (i : Nat) (k : ByteArray) : Bool × ByteArray :=
  if (lastW (gR l i).t.ops k).isSome = true then rHeld l (some i) k else
    let v := rSee l k (if fl = 2 then clock else (gR l i).t.f2)
    let v := if fl = 3 then v.bind fun b => rSee l k ((gR l b).t.f3 - 1) else v
    rHeld l (if fl = 4 ∧ (rDirt l i k l.length).1.isSome = true then (rDirt l i k l.length).1 else v) k
/-- Has one of the operations' keys been committed behind the start? -/
def aft (l : List Rn) (o : Option Nat) (start : Int) : Bool := match o with
  | none => false
  | some b => decide (start < (gR l b).t.f3)
def late1 (l : List Rn) (clock start : Int) (o : OpM) : Bool := !(o.kind == 1) && aft l (rSee l o.key clock) start
def rPass (fl clock : Int) (l : List Rn) (t : TxM) : Bool := (fl == 1) || !(t.ops.any (late1 l clock t.f2))
/-- Versions, as a log makes them. -/
def one (k : ByteArray) (n : Nat) (t : TxM) : List Vn := if t.f6 = 1 ∧ (lastW t.ops k).isSome = true then [⟨t.f3, n, (opL t k).found, (opL t k).value⟩] else []
def vs (k : ByteArray) : Nat → List TxM → List Vn
  | _, [] => []
  | n, t :: r => one k n t ++ vs k (n + 1) r
theorem vs_snoc (k : ByteArray) (n : Nat) (l : List TxM) (t : TxM) : vs k n (l ++ [t]) = vs k n l ++ one k (n + l.length) t := by
  induction l generalizing n with
  | nil => simp [vs]
  | cons a r ih =>
    show one k n a ++ vs k (n + 1) (r ++ [t]) = one k n a ++ vs k (n + 1) r ++ one k (n + (r.length + 1)) t
    rw [ih, List.append_assoc, show n + 1 + r.length = n + (r.length + 1) by omega]
theorem mem_vs {k : ByteArray} {n : Nat} {l : List TxM} {x : Vn} : x ∈ vs k n l ↔ ∃ i t, l[i]? = some t ∧ x ∈ one k (n + i) t := by
  induction l generalizing n with
  | nil => simp [vs]
  | cons a r ih =>
    show x ∈ one k n a ++ vs k (n + 1) r ↔ _
    rw [List.mem_append, ih]
    constructor
    · rintro (h | ⟨i, t, h1, h2⟩)
      · exact ⟨0, a, rfl, h⟩
      · exact ⟨i + 1, t, h1, by rw [show n + (i + 1) = n + 1 + i by omega]; exact h2⟩
    · rintro ⟨i, t, h1, h2⟩
      cases i with
      | zero =>
        simp only [List.getElem?_cons_zero, Option.some.injEq] at h1
        subst h1
        exact .inl h2
      | succ i => exact .inr ⟨i, t, h1, by rw [show n + 1 + i = n + (i + 1) by omega]; exact h2⟩
theorem mem_one {k : ByteArray} {n : Nat} {t : TxM} {x : Vn} : x ∈ one k n t ↔ (t.f6 = 1 ∧ (lastW t.ops k).isSome = true) ∧ x = ⟨t.f3, n, (opL t k).found, (opL t k).value⟩ := by
  unfold one
  split
  · rename_i h
    simp [h]
  · rename_i h
    simp [h]
/-- How the document's state stands to the program's. -/
structure Rl (M : Mm) (R : Rr) : Prop where
  clk : R.clock = M.clock
  log : M.log = R.ends.map fun i => (gR R.all i).t
  fin : ∀ i, i ∈ R.ends ↔ (i < R.all.length ∧ (gR R.all i).st ≠ 0)
  st : ∀ r ∈ R.all, r.st = 0 ∨ r.st = 1
  act : ∀ (j : Nat) (a : Ac), (M.at j).act = some a → ∃ i : Nat, R.all[i]? = some (⟨a.t, 0, a.ts⟩ : Rn) ∧ a.t.f0 = (j : Int)
  own : ∀ (i : Nat) (r : Rn), R.all[i]? = some r → r.st = 0 → ∃ (j : Nat) (a : Ac), j < M.ses.length ∧ r.t.f0 = (j : Int) ∧ (M.at j).act = some a ∧ r = ⟨a.t, 0, a.ts⟩
  uniq : ∀ (i i' : Nat) (r r' : Rn), R.all[i]? = some r → R.all[i']? = some r' → r.st = 0 → r'.st = 0 → r.t.f0 = r'.t.f0 → i = i'
  seq : ∀ j, j < M.ses.length → (M.at j).begun = ((R.all.countP fun r => r.t.f0 == (j : Int) : Nat) : Int)
  beg : M.begun = (R.all.length : Nat)
  ver : ∀ k, ch M.A k = vs k 0 M.log
  good : Good M.A
  rise : M.log.Pairwise fun a b => a.f3 < b.f3
  ends : ∀ t ∈ M.log, t.f3 ≤ M.clock
  tms : ∀ (i i' : Nat) (r r' : Rn), R.all[i]? = some r → R.all[i']? = some r' → r.st = 0 → r'.st = 0 → i ≠ i' → ∀ x ∈ r.ts, x ∉ r'.ts
theorem Rl.actI {M : Mm} {R : Rr} (h : Rl M R) {j : Nat} {a : Ac} (ha : (M.at j).act = some a) : ∃ i : Nat, rAct R.all (j : Int) = some i ∧ R.all[i]? = some (⟨a.t, 0, a.ts⟩ : Rn) := by
  obtain ⟨i, h1, h2⟩ := h.act j a ha
  refine ⟨i, rAct_some h1 (by simp [isA, h2]) (fun q r' hq hr' => ?_), h1⟩
  cases e : isA (j : Int) r' with
  | false => rfl
  | true =>
    simp only [isA, Bool.and_eq_true, beq_iff_eq] at e
    have := h.uniq q i r' _ hr' h1 e.1 rfl (by rw [e.2, h2])
    omega
theorem Rl.actN {M : Mm} {R : Rr} (h : Rl M R) {j : Nat} (ha : (M.at j).act = none) : rAct R.all (j : Int) = none := by
  refine rAct_none fun q r' hr' => ?_
  cases e : isA (j : Int) r' with
  | false => rfl
  | true =>
    simp only [isA, Bool.and_eq_true, beq_iff_eq] at e
    obtain ⟨j', a, -, h2, h3, -⟩ := h.own q r' hr' e.1
    rw [e.2] at h2
    have : j = j' := by omega
    subst this
    rw [ha] at h3
    cases h3
theorem Rl.actS {M : Mm} {R : Rr} (h : Rl M R) (j : Nat) : (rAct R.all (j : Int)).isSome = (M.at j).act.isSome := by
  cases e : (M.at j).act with
  | none => rw [h.actN e]; rfl
  | some a =>
    obtain ⟨i, h1, -⟩ := h.actI e
    rw [h1]
    rfl
/-- A finished one is in the log. -/
theorem Rl.inLog {M : Mm} {R : Rr} (h : Rl M R) {i : Nat} (hi : i < R.all.length) (hs : (gR R.all i).st ≠ 0) : ∃ p : Nat, R.ends[p]? = some i ∧ M.log[p]? = some (gR R.all i).t := by
  obtain ⟨p, hp⟩ := List.getElem?_of_mem ((h.fin i).2 ⟨hi, hs⟩)
  refine ⟨p, hp, ?_⟩
  rw [h.log, List.getElem?_map, hp]
  rfl
theorem Rl.logIn {M : Mm} {R : Rr} (h : Rl M R) {p : Nat} {t : TxM} (ht : M.log[p]? = some t) : ∃ i, R.ends[p]? = some i ∧ i < R.all.length ∧ (gR R.all i).st = 1 ∧ (gR R.all i).t = t := by
  rw [h.log, List.getElem?_map] at ht
  cases e : R.ends[p]? with
  | none => rw [e] at ht; cases ht
  | some i =>
    rw [e] at ht
    simp only [Option.map_some, Option.some.injEq] at ht
    obtain ⟨h1, h2⟩ := (h.fin i).1 (List.mem_of_getElem? e)
    refine ⟨i, rfl, h1, ?_, ht⟩
    rcases h.st _ (List.mem_of_getElem? (gR_at h1)) with h3 | h3
    · exact absurd h3 h2
    · exact h3
theorem vis_iff {k : ByteArray} {time : Int} {r : Rn} : vis k time r = true ↔ r.st = 1 ∧ r.t.f6 = 1 ∧ r.t.f3 ≤ time ∧ (lastW r.t.ops k).isSome = true := by
  unfold vis
  simp only [Bool.and_eq_true, beq_iff_eq, decide_eq_true_eq]
  exact ⟨fun ⟨⟨⟨a, b⟩, c⟩, d⟩ => ⟨a, b, c, d⟩, fun ⟨a, b, c, d⟩ => ⟨⟨⟨a, b⟩, c⟩, d⟩⟩
/-- What is seen. -/
theorem Rl.see {M : Mm} {R : Rr} (h : Rl M R) (k : ByteArray) (time : Int) : (rSee R.all k time = none ∧ atM (ch M.A k) time = none) ∨ ∃ b w, rSee R.all k time = some b ∧ b < R.all.length ∧ atM (ch M.A k) time = some ⟨(gR R.all b).t.f3, w, (rHeld R.all (some b) k).1, (rHeld R.all (some b) k).2⟩ := by
  have hin : ∀ y ∈ ch M.A k, y.c ≤ time → ∃ i p, i < R.all.length ∧ M.log[p]? = some (gR R.all i).t ∧ vis k time (gR R.all i) = true ∧ y = ⟨(gR R.all i).t.f3, (p : Nat), (opL (gR R.all i).t k).found, (opL (gR R.all i).t k).value⟩ := fun y hy hc => by
    rw [h.ver, mem_vs] at hy
    obtain ⟨p, t, h1, h2⟩ := hy
    rw [mem_one] at h2
    obtain ⟨⟨h3, h4⟩, rfl⟩ := h2
    obtain ⟨i, e1, e2, e3, rfl⟩ := h.logIn h1
    exact ⟨i, p, e2, h1, vis_iff.2 ⟨e3, h3, hc, h4⟩, by simp⟩
  rcases rSeen_spec R.all k time R.all.length with ⟨h1, h2⟩ | ⟨b, h1, h2, h3, h4⟩
  · refine .inl ⟨h1, Asc.at_none fun y hy hc => ?_⟩
    obtain ⟨i, p, e1, -, e2, -⟩ := hin y hy hc
    rw [h2 i e1] at e2
    cases e2
  · obtain ⟨v1, v2, v3, v4⟩ := vis_iff.1 h3
    obtain ⟨p, -, e2⟩ := h.inLog h2 (by rw [v1]; decide)
    refine .inr ⟨b, (p : Nat), h1, h2, (h.good k).at_spec ?_ v3 fun y hy hc => ?_⟩
    · rw [h.ver, mem_vs]
      exact ⟨p, _, e2, mem_one.2 ⟨⟨v2, v4⟩, by simp [rHeld]⟩⟩
    · obtain ⟨i, q, i1, i2, i3, rfl⟩ := hin y hy hc
      have h5 := h4 i i1 i3
      cases hg : gt ⟨(gR R.all i).t.f3, (q : Nat), (opL (gR R.all i).t k).found, (opL (gR R.all i).t k).value⟩ ⟨(gR R.all b).t.f3, (p : Nat), (rHeld R.all (some b) k).1, (rHeld R.all (some b) k).2⟩ with
      | false => rfl
      | true =>
        rw [gt_iff] at hg
        simp only at hg
        obtain ⟨p1, pe⟩ := List.getElem?_eq_some_iff.1 e2
        obtain ⟨q1, qe⟩ := List.getElem?_eq_some_iff.1 i2
        have hr := List.pairwise_iff_getElem.1 h.rise
        rcases Nat.lt_trichotomy p q with hpq | hpq | hpq
        · have := hr p q p1 q1 hpq
          rw [pe, qe] at this
          omega
        · omega
        · have := hr q p q1 p1 hpq
          rw [pe, qe] at this
          omega
end Go.Proofs.Ytbjmdpfoeeadeaa.Ch.Mc

namespace Go.Proofs.Ytbjmdpfoeeadeaa.Ch.Mc

/-- The versions that a commit of now lays. -/
theorem oc_ch {A : List En} {c n : Int} {l : List OpM} (hA : ∀ e ∈ A, e.x.c < c) (hl : ∀ o ∈ l, 0 < o.key.size ∧ o.key.size ≤ 8 ∧ (o.kind ≠ 1 → o.value.size ≤ 16 ∧ (o.found = true ∨ o.value.size = 0))) (hc : 0 ≤ c ∧ c ≤ 1099511627776) (hn : 0 ≤ n ∧ n < 4096) (m : Nat) (hm : m ≤ l.length) :
    ∀ k, ch (insts A c n (oc l m)) k = ch A k ++ match lastW l k with
      | none => []
      | some i => if i < m then [⟨c, n, (l.getD i z0).found, (l.getD i z0).value⟩] else [] := by
  induction m with
  | zero =>
    intro k
    show ch A k = _
    cases lastW l k <;> simp
  | succ m ih =>
    have ih := ih (by omega)
    intro k
    have hml : m < l.length := by omega
    rw [oc]
    by_cases hlw : lastW l (l.getD m z0).key = some m
    · rw [if_pos hlw, insts_snoc]
      have hmem : l.getD m z0 ∈ l := by rw [List.getD_eq_getElem?_getD, List.getElem?_eq_getElem hml]; simp
      obtain ⟨h1, h2, h3⟩ := hl _ hmem
      have hw := (lw_some hlw).2.1
      have hk1 : (l.getD m z0).kind ≠ 1 := by
        unfold isW at hw
        intro e
        rw [e] at hw
        simp at hw
      obtain ⟨h4, h5⟩ := h3 hk1
      have hch := ih (l.getD m z0).key
      rw [hlw] at hch
      simp only [Nat.lt_irrefl, if_false, List.append_nil] at hch
      have hst : stale (ch (insts A c n (oc l m)) (l.getD m z0).key) ⟨c, n, (l.getD m z0).found, (l.getD m z0).value⟩ = false := by
        rw [hch]
        unfold stale
        rw [List.any_eq_false]
        intro y hy
        obtain ⟨e, he, -, rfl⟩ := mem_ch.1 hy
        have := hA e he
        rw [(gt_iff _ _).2 (.inl this)]
        decide
      have hin : inst (insts A c n (oc l m)) (l.getD m z0).key ⟨c, n, (l.getD m z0).found, (l.getD m z0).value⟩ = insts A c n (oc l m) ++ [⟨(l.getD m z0).key, ⟨c, n, (l.getD m z0).found, (l.getD m z0).value⟩⟩] := by
        have hrk : rightK (l.getD m z0).key = true := by unfold rightK; exact decide_eq_true ⟨h1, h2⟩
        have hrv : rightV ⟨c, n, (l.getD m z0).found, (l.getD m z0).value⟩ = true := by unfold rightV; exact decide_eq_true ⟨hc.1, hc.2, hn.1, hn.2, h4, h5⟩
        have hcode : code (insts A c n (oc l m)) (l.getD m z0).key ⟨c, n, (l.getD m z0).found, (l.getD m z0).value⟩ = 0 := by
          unfold code
          rw [if_neg (by rw [hrk]; decide), if_neg (by rw [hrv]; decide), if_neg (by rw [hst]; decide)]
        unfold Ytbjmdpfoeeadeaa.Ch.inst
        rw [if_pos hcode]
      rw [hin, ch_append, ih k]
      by_cases hkk : (l.getD m z0).key.toList = k.toList
      · have hlk : lastW l k = some m := by
          have : lastW l k = lastW l (l.getD m z0).key := by
            have e : isW k = isW (l.getD m z0).key := by funext o; unfold isW; rw [hkk]
            have e2 : ∀ q, lw l k q = lw l (l.getD m z0).key q := fun q => by
              induction q with
              | zero => rfl
              | succ q ihq => rw [lw, lw, e, ihq]
            exact e2 _
          rw [this, hlw]
        rw [ch_one_same hkk, hlk]
        simp
      · rw [ch_one_other hkk, List.append_nil]
        congr 1
        cases hlk : lastW l k with
        | none => rfl
        | some i =>
          have hne : i ≠ m := fun e => by
            subst e
            have := (lw_some hlk).2.1
            unfold isW at this
            simp only [Bool.and_eq_true, beq_iff_eq] at this
            exact hkk this.1
          simp only
          by_cases him : i < m
          · rw [if_pos him, if_pos (by omega)]
          · rw [if_neg him, if_neg (by omega)]
    · rw [if_neg hlw, List.append_nil, ih k]
      congr 1
      cases hlk : lastW l k with
      | none => rfl
      | some i =>
        have hne : i ≠ m := fun e => by
          subst e
          have hw := (lw_some hlk).2.1
          unfold isW at hw
          simp only [Bool.and_eq_true, beq_iff_eq] at hw
          apply hlw
          have e : isW (l.getD i z0).key = isW k := by funext o; unfold isW; rw [hw.1]
          have e2 : ∀ q, lw l (l.getD i z0).key q = lw l k q := fun q => by
            induction q with
            | zero => rfl
            | succ q ihq => rw [lw, lw, e, ihq]
          show lw l (l.getD i z0).key l.length = some i
          rw [e2]
          exact hlk
        simp only
        by_cases him : i < m
        · rw [if_pos him, if_pos (by omega)]
        · rw [if_neg him, if_neg (by omega)]
theorem drt_spec {S : List Sn} (k : ByteArray) (hp : ∀ (j : Nat) (a : Ac), (S.getD j sn0).act = some a → a.ts.length = a.t.ops.length ∧ ∀ x ∈ a.ts, 0 < x) (n : Nat) :
    (drt S k n = (z0, 0) ∧ ∀ (j : Nat) (a : Ac), j < n → (S.getD j sn0).act = some a → lastW a.t.ops k = none) ∨
    ∃ (j : Nat) (a : Ac) (o : Nat), j < n ∧ (S.getD j sn0).act = some a ∧ lastW a.t.ops k = some o ∧ drt S k n = (a.t.ops.getD o z0, a.ts.getD o 0) ∧ ∀ (j' : Nat) (a' : Ac) (o' : Nat), j' < n → (S.getD j' sn0).act = some a' → lastW a'.t.ops k = some o' → a'.ts.getD o' 0 ≤ a.ts.getD o 0 := by
  induction n with
  | zero => exact .inl ⟨rfl, fun j a hj => by omega⟩
  | succ n ih =>
    have hcase : ∀ {P : Nat → Prop}, (∀ j, j < n → P j) → P n → ∀ j, j < n + 1 → P j := fun h1 h2 j hj => by
      rcases Nat.lt_or_eq_of_le (Nat.le_of_lt_succ hj) with h | rfl
      · exact h1 j h
      · exact h2
    rw [drt]
    cases ea : (S.getD n sn0).act with
    | none =>
      simp only
      rcases ih with ⟨h1, h2⟩ | ⟨j, a, o, h1, h2, h3, h4, h5⟩
      · exact .inl ⟨h1, fun j a hj => hcase (P := fun j => (S.getD j sn0).act = some a → lastW a.t.ops k = none) (fun j hj => h2 j a hj) (fun h => by rw [ea] at h; cases h) j hj⟩
      · exact .inr ⟨j, a, o, by omega, h2, h3, h4, fun j' a' o' hj' => hcase (P := fun j' => (S.getD j' sn0).act = some a' → lastW a'.t.ops k = some o' → a'.ts.getD o' 0 ≤ a.ts.getD o 0) (fun j' hj' => h5 j' a' o' hj') (fun h => by rw [ea] at h; cases h) j' hj'⟩
    | some an =>
      simp only
      cases el : lastW an.t.ops k with
      | none =>
        simp only
        rcases ih with ⟨h1, h2⟩ | ⟨j, a, o, h1, h2, h3, h4, h5⟩
        · exact .inl ⟨h1, fun j a hj => hcase (P := fun j => (S.getD j sn0).act = some a → lastW a.t.ops k = none) (fun j hj => h2 j a hj) (fun h => by rw [ea] at h; cases h; exact el) j hj⟩
        · exact .inr ⟨j, a, o, by omega, h2, h3, h4, fun j' a' o' hj' => hcase (P := fun j' => (S.getD j' sn0).act = some a' → lastW a'.t.ops k = some o' → a'.ts.getD o' 0 ≤ a.ts.getD o 0) (fun j' hj' => h5 j' a' o' hj') (fun h hl => by rw [ea] at h; cases h; rw [el] at hl; cases hl) j' hj'⟩
      | some on =>
        simp only
        have hpos : 0 < an.ts.getD on 0 := by
          obtain ⟨p1, p2⟩ := hp n an ea
          have hlt := lastW_lt el
          rw [List.getD_eq_getElem?_getD, List.getElem?_eq_getElem (by omega)]
          exact p2 _ (List.getElem_mem _)
        rcases ih with ⟨h1, h2⟩ | ⟨j, a, o, h1, h2, h3, h4, h5⟩
        · rw [h1, if_pos hpos]
          refine .inr ⟨n, an, on, by omega, ea, el, rfl, fun j' a' o' hj' => hcase (P := fun j' => (S.getD j' sn0).act = some a' → lastW a'.t.ops k = some o' → a'.ts.getD o' 0 ≤ an.ts.getD on 0) (fun j' hj' h hl => by rw [h2 j' a' hj' h] at hl; cases hl) (fun h hl => by rw [ea] at h; cases h; rw [el] at hl; cases hl; exact Int.le_refl _) j' hj'⟩
        · rw [h4]
          simp only
          by_cases hlt : a.ts.getD o 0 < an.ts.getD on 0
          · rw [if_pos hlt]
            exact .inr ⟨n, an, on, by omega, ea, el, rfl, fun j' a' o' hj' => hcase (P := fun j' => (S.getD j' sn0).act = some a' → lastW a'.t.ops k = some o' → a'.ts.getD o' 0 ≤ an.ts.getD on 0) (fun j' hj' h hl => by have := h5 j' a' o' hj' h hl; omega) (fun h hl => by rw [ea] at h; cases h; rw [el] at hl; cases hl; exact Int.le_refl _) j' hj'⟩
          · rw [if_neg hlt]
            exact .inr ⟨j, a, o, by omega, h2, h3, rfl, fun j' a' o' hj' => hcase (P := fun j' => (S.getD j' sn0).act = some a' → lastW a'.t.ops k = some o' → a'.ts.getD o' 0 ≤ a.ts.getD o 0) (fun j' hj' => h5 j' a' o' hj') (fun h hl => by rw [ea] at h; cases h; rw [el] at hl; cases hl; omega) j' hj'⟩
theorem rDirt_spec {l : List Rn} (i : Nat) (k : ByteArray) (hp : ∀ (q o : Nat), (gR l q).st = 0 → lastW (gR l q).t.ops k = some o → 0 < (gR l q).ts.getD o 0) (n : Nat) :
    (rDirt l i k n = (none, -1) ∧ ∀ q, q < n → q ≠ i → (gR l q).st = 0 → lastW (gR l q).t.ops k = none) ∨
    ∃ (b o : Nat), b < n ∧ b ≠ i ∧ (gR l b).st = 0 ∧ lastW (gR l b).t.ops k = some o ∧ rDirt l i k n = (some b, (gR l b).ts.getD o 0) ∧ ∀ (q o' : Nat), q < n → q ≠ i → (gR l q).st = 0 → lastW (gR l q).t.ops k = some o' → (gR l q).ts.getD o' 0 ≤ (gR l b).ts.getD o 0 := by
  induction n with
  | zero => exact .inl ⟨rfl, fun j hj => by omega⟩
  | succ n ih =>
    have hcase : ∀ {P : Nat → Prop}, (∀ j, j < n → P j) → P n → ∀ j, j < n + 1 → P j := fun h1 h2 j hj => by
      rcases Nat.lt_or_eq_of_le (Nat.le_of_lt_succ hj) with h | rfl
      · exact h1 j h
      · exact h2
    rw [rDirt]
    cases el : lastW (gR l n).t.ops k with
    | none =>
      simp only
      rcases ih with ⟨h1, h2⟩ | ⟨b, o, h1, h2, h3, h4, h5, h6⟩
      · exact .inl ⟨h1, hcase h2 fun _ _ => el⟩
      · exact .inr ⟨b, o, by omega, h2, h3, h4, h5, fun q o' hq => hcase (P := fun q => q ≠ i → (gR l q).st = 0 → lastW (gR l q).t.ops k = some o' → (gR l q).ts.getD o' 0 ≤ (gR l b).ts.getD o 0) (fun q hq => h6 q o' hq) (fun _ _ hl => by rw [el] at hl; cases hl) q hq⟩
    | some on =>
      simp only
      by_cases hn : n ≠ i ∧ (gR l n).st = 0
      · have hpos := hp n on hn.2 el
        rcases ih with ⟨h1, h2⟩ | ⟨b, o, h1, h2, h3, h4, h5, h6⟩
        · rw [h1, if_pos ⟨hn.1, hn.2, by simp only; omega⟩]
          exact .inr ⟨n, on, by omega, hn.1, hn.2, el, rfl, fun q o' hq => hcase (P := fun q => q ≠ i → (gR l q).st = 0 → lastW (gR l q).t.ops k = some o' → (gR l q).ts.getD o' 0 ≤ (gR l n).ts.getD on 0) (fun q hq a1 a2 hl => by rw [h2 q hq a1 a2] at hl; cases hl) (fun _ _ hl => by rw [el] at hl; cases hl; exact Int.le_refl _) q hq⟩
        · rw [h5]
          simp only
          by_cases hlt : (gR l b).ts.getD o 0 < (gR l n).ts.getD on 0
          · rw [if_pos ⟨hn.1, hn.2, hlt⟩]
            exact .inr ⟨n, on, by omega, hn.1, hn.2, el, rfl, fun q o' hq => hcase (P := fun q => q ≠ i → (gR l q).st = 0 → lastW (gR l q).t.ops k = some o' → (gR l q).ts.getD o' 0 ≤ (gR l n).ts.getD on 0) (fun q hq a1 a2 hl => by have := h6 q o' hq a1 a2 hl; omega) (fun _ _ hl => by rw [el] at hl; cases hl; exact Int.le_refl _) q hq⟩
          · rw [if_neg (fun h9 => hlt h9.2.2)]
            exact .inr ⟨b, o, by omega, h2, h3, h4, rfl, fun q o' hq => hcase (P := fun q => q ≠ i → (gR l q).st = 0 → lastW (gR l q).t.ops k = some o' → (gR l q).ts.getD o' 0 ≤ (gR l b).ts.getD o 0) (fun q hq => h6 q o' hq) (fun _ _ hl => by rw [el] at hl; cases hl; omega) q hq⟩
      · rw [if_neg (fun h9 => hn ⟨h9.1, h9.2.1⟩)]
        rcases ih with ⟨h1, h2⟩ | ⟨b, o, h1, h2, h3, h4, h5, h6⟩
        · exact .inl ⟨h1, hcase h2 fun a1 a2 => absurd ⟨a1, a2⟩ hn⟩
        · exact .inr ⟨b, o, by omega, h2, h3, h4, h5, fun q o' hq => hcase (P := fun q => q ≠ i → (gR l q).st = 0 → lastW (gR l q).t.ops k = some o' → (gR l q).ts.getD o' 0 ≤ (gR l b).ts.getD o 0) (fun q hq => h6 q o' hq) (fun a1 a2 => absurd ⟨a1, a2⟩ hn) q hq⟩
theorem getD_mem {l : List Int} {o : Nat} (h : o < l.length) : l.getD o 0 ∈ l := by
  rw [List.getD_eq_getElem?_getD, List.getElem?_eq_getElem h]
  exact List.getElem_mem _
/-- What the document's machine holds of an active transaction. -/
theorem Rl.runs {M : Mm} {R : Rr} (h : Rl M R) (hi : Inv M) {q : Nat} (hq : q < R.all.length) (hs : (gR R.all q).st = 0) : ∃ (j : Nat) (a : Ac), j < M.ses.length ∧ (M.at j).act = some a ∧ gR R.all q = ⟨a.t, 0, a.ts⟩ ∧ AcI M.clock a := by
  obtain ⟨j, a, h1, -, h3, h4⟩ := h.own q _ (gR_at hq) hs
  exact ⟨j, a, h1, h3, h4, hi.ac j a h3⟩
theorem gR_out {l : List Rn} {q : Nat} (h : l.length ≤ q) : gR l q = rn0 := by
  unfold gR
  rw [List.getD_eq_getElem?_getD, List.getElem?_eq_none h]
  rfl
theorem lt_of_lastW {l : List Rn} {q : Nat} {k : ByteArray} {o : Nat} (h : lastW (gR l q).t.ops k = some o) : q < l.length := by
  refine Classical.byContradiction fun hn => ?_
  rw [gR_out (by omega)] at h
  have := lastW_lt h
  simp [rn0, t0] at this
theorem Rl.dirt {M : Mm} {R : Rr} (h : Rl M R) (hi : Inv M) {i : Nat} {a : Ac} (ha : R.all[i]? = some ⟨a.t, 0, a.ts⟩) (k : ByteArray) (hl : lastW a.t.ops k = none) :
    ((rDirt R.all i k R.all.length).1 = none ∧ ¬ 0 < (drt M.ses k M.ses.length).2) ∨ ∃ b, (rDirt R.all i k R.all.length).1 = some b ∧ 0 < (drt M.ses k M.ses.length).2 ∧ rHeld R.all (some b) k = ((drt M.ses k M.ses.length).1.found, (drt M.ses k M.ses.length).1.value) := by
  have s1 := drt_spec (S := M.ses) k (fun j a ha => ⟨(hi.ac j a ha).ts, fun x hx => ((hi.ac j a ha).pos x hx).1⟩) M.ses.length
  have s2 := rDirt_spec (l := R.all) i k (fun q o hs hlo => by
    obtain ⟨j, a', -, h2, h3, h4⟩ := h.runs hi (lt_of_lastW hlo) hs
    rw [h3] at hlo ⊢
    exact (h4.pos _ (getD_mem (by rw [h4.ts]; exact lastW_lt hlo))).1) R.all.length
  rcases s1 with ⟨a1, a2⟩ | ⟨j, a', o, b1, b2, b3, b4, b5⟩
  · rcases s2 with ⟨c1, c2⟩ | ⟨b, o, d1, d2, d3, d4, d5, d6⟩
    · exact .inl ⟨by rw [c1], by rw [a1]; decide⟩
    · obtain ⟨j, a', e1, e2, e3, e4⟩ := h.runs hi d1 d3
      have := a2 j a' e1 e2
      rw [e3, this] at d4
      cases d4
  · obtain ⟨i', f1, f2⟩ := h.act j a' b2
    have hlen : i' < R.all.length := (List.getElem?_eq_some_iff.1 f1).1
    have hg : gR R.all i' = ⟨a'.t, 0, a'.ts⟩ := gR_of f1
    have hne : i' ≠ i := fun e => by
      subst e
      rw [ha] at f1
      simp only [Option.some.injEq, Rn.mk.injEq] at f1
      rw [← f1.1, hl] at b3
      cases b3
    have hp := hi.ac j a' b2
    have hpos : 0 < a'.ts.getD o 0 := (hp.pos _ (getD_mem (by rw [hp.ts]; exact lastW_lt b3))).1
    rcases s2 with ⟨c1, c2⟩ | ⟨b, o2, d1, d2, d3, d4, d5, d6⟩
    · have := c2 i' hlen hne (by rw [hg])
      rw [hg, b3] at this
      cases this
    · obtain ⟨j2, a2, e1, e2, e3, e4⟩ := h.runs hi d1 d3
      have m1 := d6 i' o hlen hne (by rw [hg]) (by rw [hg]; exact b3)
      rw [hg, e3] at m1
      rw [e3] at d4
      have m2 := b5 j2 a2 o2 e1 e2 d4
      have heq : a2.ts.getD o2 0 = a'.ts.getD o 0 := by simp only at m1; omega
      have hbi : b = i' := by
        refine Classical.byContradiction fun hbi => ?_
        refine h.tms b i' _ _ (by rw [gR_at d1, e3]) f1 rfl rfl hbi (a2.ts.getD o2 0) (getD_mem (by rw [e4.ts]; exact lastW_lt d4)) ?_
        rw [heq]
        exact getD_mem (by rw [hp.ts]; exact lastW_lt b3)
      subst hbi
      rw [hg] at e3
      simp only [Rn.mk.injEq] at e3
      refine .inr ⟨b, by rw [d5], by rw [b4]; exact hpos, ?_⟩
      rw [b4]
      simp only [rHeld, hg, opL, b3]
theorem Rl.read {M : Mm} {R : Rr} (h : Rl M R) (hi : Inv M) {i : Nat} {a : Ac} (ha : R.all[i]? = some ⟨a.t, 0, a.ts⟩) (k : ByteArray) : rRead M.flaw M.clock R.all i k = seeM M a.t k := by
  have hg : gR R.all i = ⟨a.t, 0, a.ts⟩ := gR_of ha
  unfold rRead seeM
  rw [hg]
  cases el : lastW a.t.ops k with
  | some o =>
    rw [if_pos (show (some o).isSome = true from rfl)]
    simp only [rHeld, hg, opL, el]
  | none =>
    rw [if_neg (by simp)]
    simp only
    have hcom : rHeld R.all (if M.flaw = 3 then (rSee R.all k (if M.flaw = 2 then M.clock else a.t.f2)).bind fun b => rSee R.all k ((gR R.all b).t.f3 - 1) else rSee R.all k (if M.flaw = 2 then M.clock else a.t.f2)) k = ((comM M.flaw M.clock M.A k a.t.f2).f, (comM M.flaw M.clock M.A k a.t.f2).v) := by
      unfold comM
      rcases h.see k (if M.flaw = 2 then M.clock else a.t.f2) with ⟨h1, h2⟩ | ⟨b, w, h1, h2, h3⟩
      · rw [h1, h2]
        simp only [Option.bind_none, ite_self]
        rfl
      · rw [h1, h3]
        simp only [Option.bind_some]
        by_cases hf : M.flaw = 3
        · rw [if_pos hf, if_pos hf]
          rcases h.see k ((gR R.all b).t.f3 - 1) with ⟨g1, g2⟩ | ⟨b', w', g1, g2, g3⟩
          · rw [g1, g2]
            rfl
          · rw [g1, g3]
            rfl
        · rw [if_neg hf, if_neg hf]
    generalize (if M.flaw = 3 then (rSee R.all k (if M.flaw = 2 then M.clock else a.t.f2)).bind fun b => rSee R.all k ((gR R.all b).t.f3 - 1) else rSee R.all k (if M.flaw = 2 then M.clock else a.t.f2)) = V at hcom ⊢
    rcases h.dirt hi ha k el with ⟨d1, d2⟩ | ⟨b, d1, d2, d3⟩
    · rw [if_neg (fun h9 => by rw [d1] at h9; exact absurd h9.2 (by simp)), if_neg (fun h9 => d2 h9.2)]
      exact hcom
    · by_cases hf : M.flaw = 4
      · rw [if_pos ⟨hf, by rw [d1]; rfl⟩, if_pos ⟨hf, d2⟩, d1, d3]
      · rw [if_neg (fun h9 => hf h9.1), if_neg (fun h9 => hf h9.1)]
        exact hcom
theorem lastW_congr {k k' : ByteArray} (h : k.toList = k'.toList) (l : List OpM) : lastW l k = lastW l k' := by
  have e : isW k = isW k' := by funext o; unfold isW; rw [h]
  have e2 : ∀ q, lw l k q = lw l k' q := fun q => by
    induction q with
    | zero => rfl
    | succ q ihq => rw [lw, lw, e, ihq]
  exact e2 _
theorem af_iff (l : List Vn) (t : Int) : (afM l t).isSome = true ↔ ∃ y ∈ l, t < y.c := by
  unfold afM cnt
  have e0 : ∀ n : Nat, (l[n]?).isSome = true ↔ n < l.length := fun n => by
    by_cases hn : n < l.length
    · rw [List.getElem?_eq_getElem hn]; simp [hn]
    · rw [List.getElem?_eq_none (by omega)]; simp [hn]
  rw [e0]
  constructor
  · intro h
    refine Classical.byContradiction fun hn => ?_
    have : l.countP (fun y => decide (y.c ≤ t)) = l.length := List.countP_eq_length.2 fun y hy => by
      have := mt (fun h9 => (⟨y, hy, h9⟩ : ∃ y ∈ l, t < y.c)) hn
      simp only [decide_eq_true_eq]
      omega
    omega
  · rintro ⟨y, hy, hc⟩
    have h1 := List.countP_le_length (p := fun y : Vn => decide (y.c ≤ t)) (l := l)
    refine Nat.lt_of_le_of_ne h1 fun e => ?_
    have := List.countP_eq_length.1 e y hy
    simp only [decide_eq_true_eq] at this
    omega
/-- The latest version of all. -/
theorem Rl.latest {M : Mm} {R : Rr} (h : Rl M R) (hv : ∀ e ∈ M.A, e.x.c ≤ M.clock) (k : ByteArray) (start : Int) : aft R.all (rSee R.all k M.clock) start = (afM (ch M.A k) start).isSome := by
  have hle : ∀ y ∈ ch M.A k, y.c ≤ M.clock := fun y hy => by
    obtain ⟨e, h1, -, rfl⟩ := mem_ch.1 hy
    exact hv e h1
  rcases h.see k M.clock with ⟨h1, h2⟩ | ⟨b, w, h1, h2, h3⟩
  · rw [h1]
    simp only [aft]
    cases e : (afM (ch M.A k) start).isSome with
    | false => rfl
    | true =>
      obtain ⟨y, hy, -⟩ := (af_iff _ _).1 e
      have hc := hle y hy
      obtain ⟨i, hi⟩ := List.getElem?_of_mem hy
      have := ((h.good k).cnt_iff M.clock hi).2 hc
      unfold atM at h2
      rw [if_neg (by omega), List.getElem?_eq_none_iff] at h2
      have h4 := cnt_le (ch M.A k) M.clock
      have h5 := (List.getElem?_eq_some_iff.1 hi).1
      omega
  · rw [h1]
    simp only [aft]
    obtain ⟨m1, m2, m3⟩ := (h.good k).at_mem h3
    by_cases hs : start < (gR R.all b).t.f3
    · rw [decide_eq_true hs, eq_comm, af_iff]
      exact ⟨_, m1, hs⟩
    · rw [decide_eq_false hs]
      cases e : (afM (ch M.A k) start).isSome with
      | false => rfl
      | true =>
        obtain ⟨y, hy, hc⟩ := (af_iff _ _).1 e
        have h5 := m3 y hy (hle y hy)
        have h6 : ¬ ((gR R.all b).t.f3 < y.c) := fun h9 => by rw [(gt_iff _ _).2 (.inl h9)] at h5; cases h5
        omega
theorem Rl.pass {M : Mm} {R : Rr} (h : Rl M R) (hv : ∀ e ∈ M.A, e.x.c ≤ M.clock) (a : Ac) : rPass M.flaw M.clock R.all a.t = !lost M a := by
  unfold rPass lost
  have hany : a.t.ops.any (late1 R.all M.clock a.t.f2) = over M.A a.t.f2 (outc a.t.ops) := by
    rw [Bool.eq_iff_iff]
    unfold over
    rw [List.any_eq_true, List.any_eq_true]
    constructor
    · rintro ⟨o, h1, h2⟩
      unfold late1 at h2
      rw [Bool.and_eq_true] at h2
      rw [h.latest hv] at h2
      have hk : o.kind ≠ 1 := by simpa using h2.1
      obtain ⟨p, hp⟩ := List.getElem?_of_mem h1
      have hpl := (List.getElem?_eq_some_iff.1 hp).1
      have hgd : a.t.ops.getD p z0 = o := by rw [List.getD_eq_getElem?_getD, hp]; rfl
      cases el : lastW a.t.ops o.key with
      | none =>
        have := lw_none.1 el p hpl
        rw [hgd, isW_self rfl hk] at this
        cases this
      | some q =>
        have hw := (lw_some el).2.1
        have hkey : (a.t.ops.getD q z0).key.toList = o.key.toList := by
          unfold isW at hw
          simp only [Bool.and_eq_true, beq_iff_eq] at hw
          exact hw.1
        refine ⟨a.t.ops.getD q z0, (oc_in _).2 ⟨q, lastW_lt el, by rw [lastW_congr hkey]; exact el, rfl⟩, ?_⟩
        rw [ch_congr hkey]
        exact h2.2
    · rintro ⟨o, h1, h2⟩
      obtain ⟨p, hp, hl, rfl⟩ := (oc_in _).1 h1
      have hw := (lw_some hl).2.1
      have hk : (a.t.ops.getD p z0).kind ≠ 1 := fun e => by
        unfold isW at hw
        rw [e] at hw
        simp at hw
      refine ⟨a.t.ops.getD p z0, by rw [List.getD_eq_getElem?_getD, List.getElem?_eq_getElem hp]; exact List.getElem_mem _, ?_⟩
      unfold late1
      rw [h.latest hv, h2, Bool.and_true]
      simpa using hk
  rw [hany]
  cases hf : M.flaw == 1 <;> simp
end Go.Proofs.Ytbjmdpfoeeadeaa.Ch.Mc

namespace Go.Proofs.Ytbjmdpfoeeadeaa.Ch.Mc

def rBeg (R : Rr) (se c : Int) : Rr := { R with all := R.all ++ [⟨⟨se, ((R.all.countP fun r => r.t.f0 == se : Nat) : Int), R.clock, 0, c, 0, 0, []⟩, 0, []⟩] }
def addR (r : Rn) (c : Int) (o : OpM) : Rn := ⟨⟨r.t.f0, r.t.f1, r.t.f2, r.t.f3, r.t.f4, r.t.f5, r.t.f6, r.t.ops ++ [o]⟩, r.st, r.ts ++ [c]⟩
def rOp (R : Rr) (i : Nat) (o : OpM) : Rr := { R with all := R.all.set i (addR (gR R.all i) R.clock o) }
def endR (r : Rn) (c st : Int) : Rn := ⟨endT r.t c st, 1, r.ts⟩
def rEnd (R : Rr) (i : Nat) (st : Int) : Rr := { R with all := R.all.set i (endR (gR R.all i) R.clock st), ends := R.ends ++ [i] }
def rTick (R : Rr) (c : Int) : Rr := { R with clock := c }
theorem gR_set {l : List Rn} {i : Nat} (h : i < l.length) (r : Rn) (q : Nat) : gR (l.set i r) q = if i = q then r else gR l q := by
  unfold gR
  simp only [List.getD_eq_getElem?_getD, List.getElem?_set]
  split
  · subst_vars
    first | rfl | (rw [if_pos h]; rfl)
  · rfl
theorem get_set {l : List Rn} {i : Nat} (h : i < l.length) (r : Rn) {q : Nat} {r' : Rn} (hq : (l.set i r)[q]? = some r') : (i = q ∧ r' = r) ∨ (i ≠ q ∧ l[q]? = some r') := by
  rw [List.getElem?_set] at hq
  split at hq
  · rename_i e
    exact .inl ⟨e, (Option.some.inj hq).symm⟩
  · rename_i e
    exact .inr ⟨e, hq⟩
theorem set_get_ne {l : List Rn} {i q : Nat} (hq : i ≠ q) (r : Rn) {r' : Rn} (h : l[q]? = some r') : (l.set i r)[q]? = some r' := by
  rw [List.getElem?_set, if_neg hq]
  exact h
theorem set_get {l : List Rn} {i : Nat} (h : i < l.length) (r : Rn) : (l.set i r)[i]? = some r := by
  rw [List.getElem?_set, if_pos rfl]
  first | rfl | rw [if_pos h]
theorem count_set {l : List Rn} {i : Nat} {r : Rn} (h : l[i]? = some r) {r' : Rn} (p : Rn → Bool) (hp : p r' = p r) : (l.set i r').countP p = l.countP p := by
  induction l generalizing i with
  | nil => simp at h
  | cons a t ih =>
    cases i with
    | zero =>
      simp only [List.getElem?_cons_zero, Option.some.injEq] at h
      subst h
      simp [List.countP_cons, hp]
    | succ i =>
      simp only [List.getElem?_cons_succ] at h
      simp [List.countP_cons, ih h]
theorem Rl.tick {M : Mm} {R : Rr} (h : Rl M R) {c : Int} (hc : M.clock ≤ c) : Rl (M.tick c) (rTick R c) :=
  ⟨rfl, h.log, h.fin, h.st, h.act, h.own, h.uniq, h.seq, h.beg, h.ver, h.good, h.rise, fun t ht => Int.le_trans (h.ends t ht) hc, h.tms⟩
theorem Rl.begin {M : Mm} {R : Rr} (h : Rl M R) {j : Nat} (hj : j < M.ses.length) (hn : (M.at j).act = none) (c : Int) : Rl (beginM M j c) (rBeg R (j : Int) c) := by
  have hat : ∀ q, (beginM M j c).at q = if j = q then ⟨(M.at j).begun + 1, some ⟨⟨(j : Int), (M.at j).begun, M.clock, 0, c, 0, 0, []⟩, []⟩⟩ else M.at q := fun q => at_set hj _
  have hnone : ∀ (q : Nat) (r : Rn), R.all[q]? = some r → r.st = 0 → r.t.f0 ≠ (j : Int) := fun q r hr hs e => by
    obtain ⟨j', a, -, h2, h3, -⟩ := h.own q r hr hs
    rw [e] at h2
    have : j = j' := by omega
    subst this
    rw [hn] at h3
    cases h3
  obtain ⟨nw, hnw⟩ : ∃ nw : Rn, nw = ⟨⟨(j : Int), ((R.all.countP fun r => r.t.f0 == (j : Int) : Nat) : Int), R.clock, 0, c, 0, 0, []⟩, 0, []⟩ := ⟨_, rfl⟩
  have hall : (rBeg R (j : Int) c).all = R.all ++ [nw] := by rw [hnw]; rfl
  have hnw2 : nw = ⟨⟨(j : Int), (M.at j).begun, M.clock, 0, c, 0, 0, []⟩, 0, []⟩ := by rw [hnw, h.seq j hj, h.clk]
  have hget : ∀ (q : Nat) (r : Rn), (R.all ++ [nw])[q]? = some r → R.all[q]? = some r ∨ (q = R.all.length ∧ r = nw) := fun q r hr => by
    by_cases hq : q < R.all.length
    · rw [List.getElem?_append_left hq] at hr
      exact .inl hr
    · rw [List.getElem?_append_right (by omega)] at hr
      have hq2 := (List.getElem?_eq_some_iff.1 hr).1
      simp only [List.length_cons, List.length_nil] at hq2
      have : q = R.all.length := by omega
      subst this
      simp at hr
      exact .inr ⟨rfl, hr.symm⟩
  have hold : ∀ (q : Nat) (r : Rn), R.all[q]? = some r → (R.all ++ [nw])[q]? = some r := fun q r hr => by
    rw [List.getElem?_append_left (List.getElem?_eq_some_iff.1 hr).1]
    exact hr
  have hgo : ∀ q, q < R.all.length → gR (R.all ++ [nw]) q = gR R.all q := fun q hq => gR_of (hold q _ (gR_at hq))
  have hlast : (R.all ++ [nw])[R.all.length]? = some nw := by simp
  refine ⟨h.clk, ?_, fun i => ?_, fun r hr => ?_, fun q a hq => ?_, fun i r hr hs => ?_, fun i i' r r' hr hr' hs hs' e => ?_, fun q hq => ?_, ?_, h.ver, h.good, h.rise, h.ends, fun i i' r r' hr hr' hs hs' hne => ?_⟩
  · show M.log = R.ends.map fun i => (gR (rBeg R (j : Int) c).all i).t
    rw [h.log, hall]
    refine List.map_congr_left fun i hi => ?_
    rw [hgo i ((h.fin i).1 hi).1]
  · show i ∈ R.ends ↔ _
    rw [h.fin i, hall, List.length_append]
    constructor
    · rintro ⟨h1, h2⟩
      exact ⟨by simp only [List.length_cons, List.length_nil]; omega, by rw [hgo i h1]; exact h2⟩
    · rintro ⟨h1, h2⟩
      by_cases hi : i < R.all.length
      · rw [hgo i hi] at h2
        exact ⟨hi, h2⟩
      · have : i = R.all.length := by simp only [List.length_cons, List.length_nil] at h1; omega
        subst this
        rw [gR_of hlast, hnw] at h2
        exact absurd rfl h2
  · rw [hall] at hr
    rcases List.mem_append.1 hr with hr | hr
    · exact h.st r hr
    · rw [List.mem_singleton.1 hr, hnw]
      exact .inl rfl
  · rw [hat] at hq
    rw [hall]
    split at hq
    · rename_i e
      subst e
      simp only [Option.some.injEq] at hq
      subst hq
      exact ⟨_, by rw [hlast, hnw2], rfl⟩
    · obtain ⟨i, h1, h2⟩ := h.act q a hq
      exact ⟨i, hold i _ h1, h2⟩
  · rw [hall] at hr
    show ∃ (j' : Nat) (a : Ac), j' < (M.ses.set j _).length ∧ _
    rw [List.length_set]
    rcases hget i r hr with hr | ⟨-, rfl⟩
    · obtain ⟨j', a, h1, h2, h3, h4⟩ := h.own i r hr hs
      refine ⟨j', a, h1, h2, ?_, h4⟩
      rw [hat, if_neg (fun e => by subst e; rw [hn] at h3; cases h3)]
      exact h3
    · refine ⟨j, ⟨⟨(j : Int), (M.at j).begun, M.clock, 0, c, 0, 0, []⟩, []⟩, hj, by rw [hnw2], ?_, by rw [hnw2]⟩
      rw [hat, if_pos rfl]
  · rw [hall] at hr hr'
    rcases hget i r hr with h1 | ⟨e1, g1⟩
    · rcases hget i' r' hr' with h2 | ⟨e2, g2⟩
      · exact h.uniq i i' r r' h1 h2 hs hs' e
      · rw [g2, hnw2] at e
        exact absurd e (hnone i r h1 hs)
    · rcases hget i' r' hr' with h2 | ⟨e2, g2⟩
      · rw [g1, hnw2] at e
        exact absurd e.symm (hnone i' r' h2 hs')
      · omega
  · have hq' : q < M.ses.length := by
      have : q < (M.ses.set j _).length := hq
      rwa [List.length_set] at this
    rw [hat, hall, List.countP_append]
    split
    · rename_i e
      subst e
      rw [hnw2]
      simp only [List.countP_cons, List.countP_nil, beq_self_eq_true, if_true]
      rw [h.seq j hj]
      omega
    · rename_i e
      have : (nw.t.f0 == (q : Int)) = false := by rw [hnw2]; simp; omega
      simp only [List.countP_cons, List.countP_nil, this, Bool.false_eq_true, if_false]
      rw [h.seq q hq']
      omega
  · show M.begun + 1 = _
    rw [h.beg, hall, List.length_append]
    simp
  · rw [hall] at hr hr'
    rcases hget i r hr with h1 | ⟨e1, g1⟩
    · rcases hget i' r' hr' with h2 | ⟨e2, g2⟩
      · exact h.tms i i' r r' h1 h2 hs hs' hne
      · intro x hx; rw [g2, hnw]; simp
    · intro x hx; rw [g1, hnw] at hx; simp at hx
theorem Rl.oper {M : Mm} {R : Rr} (h : Rl M R) {j i : Nat} {a : Ac} (ha : (M.at j).act = some a) (hi : R.all[i]? = some ⟨a.t, 0, a.ts⟩) (hf : ∀ (q : Nat) (b : Ac), (M.at q).act = some b → ∀ x ∈ b.ts, x < M.clock) (o : OpM) : Rl (operM M j a o) (rOp R i o) := by
  have hj := at_lt ha
  have hlen := (List.getElem?_eq_some_iff.1 hi).1
  have hg : gR R.all i = ⟨a.t, 0, a.ts⟩ := gR_of hi
  have hat : ∀ q, (operM M j a o).at q = if j = q then ⟨(M.at j).begun, some (addO a M.clock o)⟩ else M.at q := fun q => at_set hj _
  have hnew : addR (gR R.all i) R.clock o = ⟨(addO a M.clock o).t, 0, (addO a M.clock o).ts⟩ := by rw [hg, h.clk]; rfl
  have hall : (rOp R i o).all = R.all.set i ⟨(addO a M.clock o).t, 0, (addO a M.clock o).ts⟩ := by rw [← hnew]; rfl
  have hi0 : ∀ q, (i = q → (gR R.all q).st = 0) := fun q e => by rw [← e, hg]
  have hfe : i ∉ R.ends := fun hm => ((h.fin i).1 hm).2 (by rw [hg])
  have ha0 : a.t.f0 = (j : Int) := by
    obtain ⟨j', a', -, h2, h3, h4⟩ := h.own i _ hi rfl
    simp only [Rn.mk.injEq] at h4
    simp only at h2
    obtain ⟨i2, g1, g2⟩ := h.act j a ha
    exact g2
  have hold : ∀ (q : Nat) (r : Rn), R.all[q]? = some r → r.st = 0 → ∀ x ∈ r.ts, x < M.clock := fun q r hr hs => by
    obtain ⟨j', a', -, -, h3, rfl⟩ := h.own q r hr hs
    exact hf j' a' h3
  refine ⟨h.clk, ?_, fun q => ?_, fun r hr => ?_, fun q b hq => ?_, fun q r hr hs => ?_, fun q q' r r' hr hr' hs hs' e => ?_, fun q hq => ?_, ?_, h.ver, h.good, h.rise, h.ends, fun q q' r r' hr hr' hs hs' hne x hx => ?_⟩
  · show M.log = R.ends.map fun i' => (gR (rOp R i o).all i').t
    rw [h.log, hall]
    refine List.map_congr_left fun q hq => ?_
    rw [gR_set hlen, if_neg (fun e => hfe (by rw [e]; exact hq))]
  · show q ∈ R.ends ↔ _
    rw [h.fin q, hall, List.length_set, gR_set hlen]
    split
    · rename_i e
      rw [hi0 q e]
    · rfl
  · rw [hall] at hr
    obtain ⟨q, hq⟩ := List.getElem?_of_mem hr
    rcases get_set hlen _ hq with ⟨-, rfl⟩ | ⟨-, h2⟩
    · exact .inl rfl
    · exact h.st r (List.mem_of_getElem? h2)
  · rw [hat] at hq
    rw [hall]
    split at hq
    · rename_i e
      subst e
      simp only [Option.some.injEq] at hq
      subst hq
      exact ⟨i, set_get hlen _, ha0⟩
    · rename_i e
      obtain ⟨i', h1, h2⟩ := h.act q b hq
      refine ⟨i', set_get_ne (fun e9 => ?_) _ h1, h2⟩
      subst e9
      rw [hi] at h1
      simp only [Option.some.injEq, Rn.mk.injEq] at h1
      rw [← h1.1, ha0] at h2
      omega
  · rw [hall] at hr
    show ∃ (j' : Nat) (a : Ac), j' < (M.ses.set j _).length ∧ _
    rw [List.length_set]
    rcases get_set hlen _ hr with ⟨-, rfl⟩ | ⟨e, h2⟩
    · exact ⟨j, addO a M.clock o, hj, ha0, by rw [hat, if_pos rfl], rfl⟩
    · obtain ⟨j', a', h1, h3, h4, h5⟩ := h.own q r h2 hs
      refine ⟨j', a', h1, h3, ?_, h5⟩
      rw [hat, if_neg]
      · exact h4
      · intro e9
        subst e9
        exact e (h.uniq i q _ _ hi h2 rfl hs (by rw [h3]; exact ha0))
  · rw [hall] at hr hr'
    rcases get_set hlen _ hr with ⟨e1, rfl⟩ | ⟨e1, h1⟩
    · rcases get_set hlen _ hr' with ⟨e2, rfl⟩ | ⟨e2, h2⟩
      · omega
      · rw [← e1]
        exact h.uniq i q' _ _ hi h2 rfl hs' e
    · rcases get_set hlen _ hr' with ⟨e2, rfl⟩ | ⟨e2, h2⟩
      · rw [← e2]
        exact h.uniq q i _ _ h1 hi hs rfl e
      · exact h.uniq q q' r r' h1 h2 hs hs' e
  · have hq' : q < M.ses.length := by
      have : q < (M.ses.set j _).length := hq
      rwa [List.length_set] at this
    rw [hat, hall, count_set hi]
    · split
      · rename_i e
        subst e
        exact h.seq j hj
      · exact h.seq q hq'
    · rfl
  · show M.begun = _
    rw [h.beg, hall, List.length_set]
  · rw [hall] at hr hr'
    rcases get_set hlen _ hr with ⟨e1, rfl⟩ | ⟨e1, h1⟩
    · rcases get_set hlen _ hr' with ⟨e2, rfl⟩ | ⟨e2, h2⟩
      · omega
      · rcases List.mem_append.1 hx with hx | hx
        · exact h.tms i q' _ _ hi h2 rfl hs' e2 x hx
        · rw [List.mem_singleton.1 hx]
          intro h9
          have := hold q' r' h2 hs' _ h9
          omega
    · rcases get_set hlen _ hr' with ⟨e2, rfl⟩ | ⟨e2, h2⟩
      · intro h9
        rcases List.mem_append.1 h9 with h9 | h9
        · exact h.tms q i _ _ h1 hi hs rfl (fun e9 => e1 e9.symm) x hx h9
        · have := hold q r h1 hs x hx
          rw [List.mem_singleton.1 h9] at this
          omega
      · exact h.tms q q' r r' h1 h2 hs hs' hne x hx
theorem Rl.fin_ {M : Mm} {R : Rr} (h : Rl M R) {j i : Nat} {a : Ac} (ha : (M.at j).act = some a) (hi : R.all[i]? = some ⟨a.t, 0, a.ts⟩) (st : Int) {A : List En} (hA : Good A) (hv : ∀ k, ch A k = vs k 0 M.log ++ one k M.log.length (endT a.t M.clock st)) (he : ∀ t ∈ M.log, t.f3 < M.clock) : Rl (finM { M with A := A } j a st) (rEnd R i st) := by
  have hj := at_lt ha
  have hlen := (List.getElem?_eq_some_iff.1 hi).1
  have hg : gR R.all i = ⟨a.t, 0, a.ts⟩ := gR_of hi
  have hat : ∀ q, (finM { M with A := A } j a st).at q = if j = q then ⟨(M.at j).begun, none⟩ else M.at q := fun q => at_set hj _
  have hnew : endR (gR R.all i) R.clock st = ⟨endT a.t M.clock st, 1, a.ts⟩ := by rw [hg, h.clk]; rfl
  have hall : (rEnd R i st).all = R.all.set i ⟨endT a.t M.clock st, 1, a.ts⟩ := by rw [← hnew]; rfl
  have hfe : i ∉ R.ends := fun hm => ((h.fin i).1 hm).2 (by rw [hg])
  have ha0 : a.t.f0 = (j : Int) := by
    obtain ⟨i2, g1, g2⟩ := h.act j a ha
    exact g2
  have hlg : (finM { M with A := A } j a st).log = M.log ++ [endT a.t M.clock st] := rfl
  refine ⟨h.clk, ?_, fun q => ?_, fun r hr => ?_, fun q b hq => ?_, fun q r hr hs => ?_, fun q q' r r' hr hr' hs hs' e => ?_, fun q hq => ?_, ?_, fun k => ?_, hA, ?_, fun t ht => ?_, fun q q' r r' hr hr' hs hs' hne x hx => ?_⟩
  · rw [hlg, hall]
    show _ = (R.ends ++ [i]).map _
    rw [List.map_append, h.log]
    congr 1
    · refine List.map_congr_left fun q hq => ?_
      rw [gR_set hlen, if_neg (fun e => hfe (by rw [e]; exact hq))]
    · simp only [List.map_cons, List.map_nil]
      rw [gR_set hlen, if_pos rfl]
  · show q ∈ R.ends ++ [i] ↔ _
    rw [List.mem_append, h.fin q, hall, List.length_set, gR_set hlen, List.mem_singleton]
    by_cases e : i = q
    · subst e
      rw [if_pos rfl]
      simp [hlen]
    · rw [if_neg e]
      constructor
      · rintro (h1 | h1)
        · exact h1
        · exact absurd h1.symm e
      · exact .inl
  · rw [hall] at hr
    obtain ⟨q, hq⟩ := List.getElem?_of_mem hr
    rcases get_set hlen _ hq with ⟨-, rfl⟩ | ⟨-, h2⟩
    · exact .inr rfl
    · exact h.st r (List.mem_of_getElem? h2)
  · rw [hat] at hq
    rw [hall]
    split at hq
    · cases hq
    · rename_i e
      obtain ⟨i', h1, h2⟩ := h.act q b hq
      refine ⟨i', set_get_ne (fun e9 => ?_) _ h1, h2⟩
      subst e9
      rw [hi] at h1
      simp only [Option.some.injEq, Rn.mk.injEq] at h1
      rw [← h1.1, ha0] at h2
      omega
  · rw [hall] at hr
    show ∃ (j' : Nat) (a : Ac), j' < (M.ses.set j _).length ∧ _
    rw [List.length_set]
    rcases get_set hlen _ hr with ⟨-, rfl⟩ | ⟨e, h2⟩
    · exact absurd hs (show ¬ (1 : Int) = 0 by decide)
    · obtain ⟨j', a', h1, h3, h4, h5⟩ := h.own q r h2 hs
      refine ⟨j', a', h1, h3, ?_, h5⟩
      rw [hat, if_neg]
      · exact h4
      · intro e9
        subst e9
        exact e (h.uniq i q _ _ hi h2 rfl hs (by rw [h3]; exact ha0))
  · rw [hall] at hr hr'
    rcases get_set hlen _ hr with ⟨e1, rfl⟩ | ⟨e1, h1⟩
    · exact absurd hs (show ¬ (1 : Int) = 0 by decide)
    · rcases get_set hlen _ hr' with ⟨e2, rfl⟩ | ⟨e2, h2⟩
      · exact absurd hs' (show ¬ (1 : Int) = 0 by decide)
      · exact h.uniq q q' r r' h1 h2 hs hs' e
  · have hq' : q < M.ses.length := by
      have : q < (M.ses.set j _).length := hq
      rwa [List.length_set] at this
    rw [hat, hall, count_set hi]
    · split
      · rename_i e
        subst e
        exact h.seq j hj
      · exact h.seq q hq'
    · rfl
  · show M.begun = _
    rw [h.beg, hall, List.length_set]
  · rw [hlg, vs_snoc, Nat.zero_add]
    exact hv k
  · rw [hlg]
    refine List.pairwise_append.2 ⟨h.rise, List.pairwise_singleton _ _, fun t ht t' ht' => ?_⟩
    rw [List.mem_singleton.1 ht']
    exact he t ht
  · rw [hlg] at ht
    rcases List.mem_append.1 ht with ht | ht
    · exact h.ends t ht
    · rw [List.mem_singleton.1 ht]
      exact Int.le_refl _
  · rw [hall] at hr hr'
    rcases get_set hlen _ hr with ⟨e1, rfl⟩ | ⟨e1, h1⟩
    · exact absurd hs (show ¬ (1 : Int) = 0 by decide)
    · rcases get_set hlen _ hr' with ⟨e2, rfl⟩ | ⟨e2, h2⟩
      · exact absurd hs' (show ¬ (1 : Int) = 0 by decide)
      · exact h.tms q q' r r' h1 h2 hs hs' hne x hx
theorem Rl.new (n : Nat) (fl : Int) : Rl (newM n fl) ⟨0, [], []⟩ :=
  ⟨rfl, rfl, fun i => (by simp), fun r hr => (by cases hr), fun j a ha => (by rw [at_new] at ha; cases ha), fun i r hr => (by simp at hr), fun i i' r r' hr => (by simp at hr), fun j hj => (by rw [at_new]; rfl), rfl, fun k => rfl, Good.nil, List.Pairwise.nil, fun t ht => (by cases ht), fun i i' r r' hr => (by simp at hr)⟩
end Go.Proofs.Ytbjmdpfoeeadeaa.Ch.Mc

namespace Go.Proofs.Ytbjmdpfoeeadeaa.Ch.Mc

def opsR (R : Rr) (se : Int) : Nat := match rAct R.all se with
  | none => 0
  | some i => (gR R.all i).t.ops.length
def rCode (n : Nat) (R : Rr) (s : Stp) : Int := if codeB n s ≠ 0 then codeB n s else if s.kind = 1 ∧ (rAct R.all s.ses).isSome = true then 155 else if s.kind ≠ 1 ∧ (rAct R.all s.ses).isNone = true then 156
  else if s.kind = 1 ∧ 4096 ≤ R.all.length then 71 else if isO s ∧ 16 ≤ opsR R s.ses then 63 else if 1099511627775 - s.gap < R.clock then 154 else 0
def sts (b : Bool) : Int := if b = true then 1 else 0
def rGo (fl : Int) (R : Rr) (c : Int) (s : Stp) : Rr × An := match rAct R.all s.ses with
  | none => (rBeg R s.ses c, an0)
  | some i => if s.kind = 2 then (rOp R i (opR s (rRead fl R.clock R.all i s.key)), ⟨(rRead fl R.clock R.all i s.key).1, (rRead fl R.clock R.all i s.key).2, 0⟩)
    else if s.kind = 3 then (rOp R i (opW s), an0)
    else if s.kind = 4 then (rOp R i (opD s), an0)
    else if s.kind = 5 then (rEnd R i (sts (rPass fl R.clock R.all (gR R.all i).t)), ⟨false, e0, sts (rPass fl R.clock R.all (gR R.all i).t)⟩)
    else (rEnd R i 0, an0)
def rDo (n : Nat) (fl : Int) (R : Rr) (s : Stp) : Rr × An := if rCode n R s = 0 then rGo fl (rTick R (R.clock + 1 + s.gap)) R.clock s else (R, an0)
theorem Rl.code {M : Mm} {R : Rr} (h : Rl M R) (hi : Inv M) (s : Stp) : rCode M.ses.length R s = codeD M s := by
  unfold rCode codeD
  by_cases hB : codeB M.ses.length s ≠ 0
  · rw [if_pos hB, if_pos hB]
  · rw [if_neg hB, if_neg hB]
    obtain ⟨-, ⟨b1, b2⟩, -⟩ := codeB_zero (by simpa using hB)
    obtain ⟨j, ej⟩ : ∃ j : Nat, s.ses = (j : Int) := ⟨s.ses.toNat, by omega⟩
    unfold codeU
    have hs := h.actS j
    rw [ej, hs]
    simp only [Int.toNat_natCast]
    have hn : (rAct R.all (j : Int)).isNone = (M.at j).act.isNone := by
      rw [← Option.not_isSome, ← Option.not_isSome, hs]
    rw [hn]
    have hb := hi.b1
    have hb2 := h.beg
    have e1 : (s.kind = 1 ∧ 4096 ≤ R.all.length) ↔ (s.kind = 1 ∧ M.begun = 4096) := ⟨fun ⟨x, y⟩ => ⟨x, by omega⟩, fun ⟨x, y⟩ => ⟨x, by omega⟩⟩
    have e2 : (16 ≤ opsR R (j : Int)) ↔ (opsN (M.at j).act = 16) := by
      unfold opsR
      cases ea : (M.at j).act with
      | none => rw [h.actN ea]; simp [opsN]
      | some a =>
        obtain ⟨i, g1, g2⟩ := h.actI ea
        rw [g1]
        simp only [opsN]
        rw [gR_of g2]
        have := (hi.ac j a ea).n
        simp only
        omega
    have e3 : (1099511627775 - s.gap < R.clock) ↔ (1099511627776 < M.clock + 1 + s.gap) := by rw [h.clk]; omega
    simp only [e1, e2, e3]
theorem insts_good {A : List En} (h : Good A) (c n : Int) (l : List OpM) : Good (insts A c n l) := by
  induction l generalizing A with
  | nil => exact h
  | cons o r ih => exact ih (h.inst _ _)
theorem opL_end (t : TxM) (c st : Int) (k : ByteArray) : opL (endT t c st) k = opL t k := rfl
theorem one_end (k : ByteArray) (n : Nat) (t : TxM) (c : Int) : one k n (endT t c 0) = [] := by unfold one endT; simp
theorem Rl.step {M : Mm} {R : Rr} (h : Rl M R) (hi : Inv M) (s : Stp) : (rDo M.ses.length M.flaw R s).2 = (doM M s).2 ∧ Rl (doM M s).1 (rDo M.ses.length M.flaw R s).1 := by
  unfold rDo doM
  rw [h.code hi]
  by_cases h0 : codeD M s = 0
  · rw [if_pos h0, if_pos h0]
    obtain ⟨hB, hU⟩ := codeD_zero h0
    obtain ⟨-, ⟨b1, b2⟩, ⟨b3, b4⟩, -, -⟩ := codeB_zero hB
    obtain ⟨u1, u2, u3⟩ := codeU_zero hU
    obtain ⟨j, ej⟩ : ∃ j : Nat, s.ses = (j : Int) := ⟨s.ses.toNat, by omega⟩
    have hc0 := hi.c0
    have hcl : M.clock < M.clock + 1 + s.gap := by omega
    have ht := h.tick (c := M.clock + 1 + s.gap) (by omega)
    rw [h.clk]
    have hit : Inv (M.tick (M.clock + 1 + s.gap)) := hi.tick (by omega) u3
    have hj : j < M.ses.length := by omega
    unfold goM rGo
    rw [ej]
    simp only [Int.toNat_natCast]
    cases ea : ((M.tick (M.clock + 1 + s.gap)).at j).act with
    | none =>
      rw [show rAct (rTick R (M.clock + 1 + s.gap)).all (j : Int) = none from ht.actN ea]
      exact ⟨rfl, ht.begin hj ea _⟩
    | some a =>
      obtain ⟨i, g1, g2⟩ := ht.actI ea
      have hg : gR (rTick R (M.clock + 1 + s.gap)).all i = ⟨a.t, 0, a.ts⟩ := gR_of g2
      rw [show rAct (rTick R (M.clock + 1 + s.gap)).all (j : Int) = some i from g1]
      simp only
      have hf : ∀ (q : Nat) (b : Ac), ((M.tick (M.clock + 1 + s.gap)).at q).act = some b → ∀ x ∈ b.ts, x < (M.tick (M.clock + 1 + s.gap)).clock := fun q b hb x hx => by
        have := ((hi.ac q b hb).pos x hx).2
        show x < M.clock + 1 + s.gap
        omega
      have hend : ∀ t ∈ (M.tick (M.clock + 1 + s.gap)).log, t.f3 < (M.tick (M.clock + 1 + s.gap)).clock := fun t ht' => by
        have := h.ends t ht'
        show t.f3 < M.clock + 1 + s.gap
        omega
      have hrd : rRead M.flaw (rTick R (M.clock + 1 + s.gap)).clock (rTick R (M.clock + 1 + s.gap)).all i s.key = seeM (M.tick (M.clock + 1 + s.gap)) a.t s.key := ht.read hit g2 s.key
      have hpa : rPass M.flaw (rTick R (M.clock + 1 + s.gap)).clock (rTick R (M.clock + 1 + s.gap)).all a.t = !lost (M.tick (M.clock + 1 + s.gap)) a := ht.pass (fun e he => (hit.av e he).2) a
      rw [hrd, hg]
      simp only
      rw [hpa]
      have hno : ∀ st', st' = 0 → Rl (finM (M.tick (M.clock + 1 + s.gap)) j a st') (rEnd (rTick R (M.clock + 1 + s.gap)) i st') := fun st' e => by
        subst e
        exact ht.fin_ ea g2 0 (A := M.A) h.good (fun k => by rw [one_end, List.append_nil]; exact h.ver k) hend
      split
      · exact ⟨rfl, ht.oper ea g2 hf _⟩
      split
      · exact ⟨rfl, ht.oper ea g2 hf _⟩
      split
      · exact ⟨rfl, ht.oper ea g2 hf _⟩
      split
      · unfold comtM comtA
        cases hlo : lost (M.tick (M.clock + 1 + s.gap)) a with
        | true =>
          rw [if_pos rfl, if_pos rfl]
          exact ⟨rfl, hno 0 rfl⟩
        | false =>
          rw [if_neg (by decide), if_neg (by decide)]
          refine ⟨rfl, ht.fin_ ea g2 1 (insts_good h.good _ _ _) (fun k => ?_) hend⟩
          have hac := hit.ac j a ea
          have hll := hit.log_lt ea
          have := oc_ch (A := M.A) (c := M.clock + 1 + s.gap) (n := (M.log.length : Int)) (l := a.t.ops) (fun e he => by have := (hi.av e he).2; omega) hac.key ⟨by omega, u3⟩ ⟨by omega, by have : M.log.length < 4096 := hll; omega⟩ a.t.ops.length (Nat.le_refl _) k
          show ch (insts M.A (M.clock + 1 + s.gap) M.log.length (oc a.t.ops a.t.ops.length)) k = vs k 0 M.log ++ one k M.log.length (endT a.t (M.clock + 1 + s.gap) 1)
          rw [this, h.ver k]
          congr 1
          unfold one endT opL
          simp only
          cases el : lastW a.t.ops k with
          | none => simp
          | some o => simp [lastW_lt el]
      · exact ⟨rfl, hno 0 rfl⟩
  · rw [if_neg h0, if_neg h0]
    exact ⟨rfl, h⟩
/-- What is committed last. -/
theorem Rl.val {M : Mm} {R : Rr} (h : Rl M R) (k : ByteArray) : rHeld R.all (rSee R.all k R.clock) k = (((atM (ch M.A k) M.clock).getD v0).f, ((atM (ch M.A k) M.clock).getD v0).v) := by
  rw [h.clk]
  rcases h.see k M.clock with ⟨h1, h2⟩ | ⟨b, w, h1, h2, h3⟩
  · rw [h1, h2]
    rfl
  · rw [h1, h3]
    rfl
end Go.Proofs.Ytbjmdpfoeeadeaa.Ch.Mc

namespace Go.Proofs.Ytbjmdpfoeeadeaa.Ch.Mc

theorem af_no {M : Mm} (h : Inv M) (k : ByteArray) {t : Int} (ht : M.clock ≤ t) : afM (ch M.A k) t = none := af_none fun y hy => by
  obtain ⟨e, he, -, rfl⟩ := mem_ch.1 hy
  have := (h.av e he).2
  omega
/-- A version of now is taken. -/
theorem inst_now {A : List En} {k : ByteArray} {x : Vn} {c : Int} (hk : 0 < k.size ∧ k.size ≤ 8) (hr : rightV x = true) (hA : ∀ e ∈ A, e.x.c ≤ c) (hx : c < x.c) : inst A k x = A ++ [⟨k, x⟩] := by
  have hs : stale (ch A k) x = false := by
    unfold stale
    rw [List.any_eq_false]
    intro y hy
    obtain ⟨e, he, -, rfl⟩ := mem_ch.1 hy
    have := hA e he
    rw [(gt_iff _ _).2 (.inl (by omega))]
    decide
  unfold Ytbjmdpfoeeadeaa.Ch.inst
  rw [if_pos]
  unfold code
  rw [if_neg (by unfold rightK; simp [hk]), if_neg (by rw [hr]; decide), if_neg (by rw [hs]; decide)]
theorem right_v {c n : Int} {v : ByteArray} (hc : 0 ≤ c ∧ c ≤ 1099511627776) (hn : 0 ≤ n ∧ n < 4096) (hv : v.size ≤ 16) : rightV ⟨c, n, true, v⟩ = true := by
  unfold rightV
  exact decide_eq_true ⟨hc.1, hc.2, hn.1, hn.2, hv, .inl rfl⟩
/-- A transaction that has one write, and commits. -/
theorem one_commit {M : Mm} (h : Inv M) (hf : M.flaw = 0) {i : Nat} {a : Ac} (_ : (M.at i).act = some a) {k v : ByteArray} (ho : a.t.ops = [⟨2, k, true, v⟩]) (hov : afM (ch M.A k) a.t.f2 = none) (hk : 0 < k.size ∧ k.size ≤ 8) (hv : v.size ≤ 16) (hl : M.log.length < 4096) (hA : ∀ e ∈ M.A, e.x.c < M.clock) :
    comtM M i a = finM { M with A := M.A ++ [⟨k, ⟨M.clock, M.log.length, true, v⟩⟩] } i a 1 ∧ comtA M a = ⟨false, e0, 1⟩ := by
  have e1 : outc a.t.ops = [⟨2, k, true, v⟩] := by rw [ho]; exact outc_one (by simp)
  have e2 : lost M a = false := by
    unfold lost over
    rw [e1, hf]
    simp [hov]
  have e3 : insts M.A M.clock M.log.length (outc a.t.ops) = M.A ++ [⟨k, ⟨M.clock, M.log.length, true, v⟩⟩] := by
    rw [e1]
    show inst M.A k ⟨M.clock, M.log.length, true, v⟩ = _
    exact inst_now (c := M.clock - 1) hk (right_v ⟨h.c0, h.c1⟩ ⟨by omega, by omega⟩ hv) (fun e he => by have := hA e he; omega) (by simp only; omega)
  unfold comtM comtA
  rw [e2, e3]
  exact ⟨rfl, rfl⟩
theorem one_lost {M : Mm} (hf : M.flaw = 0) {i : Nat} {a : Ac} {k v : ByteArray} (ho : a.t.ops = [⟨2, k, true, v⟩]) (hov : (afM (ch M.A k) a.t.f2).isSome = true) : comtM M i a = finM M i a 0 ∧ comtA M a = an0 := by
  have e1 : outc a.t.ops = [⟨2, k, true, v⟩] := by rw [ho]; exact outc_one (by simp)
  have e2 : lost M a = true := by
    unfold lost over
    rw [e1, hf]
    simp [hov]
  unfold comtM comtA
  rw [e2]
  exact ⟨rfl, rfl⟩
/-- The last version of a key. -/
theorem at_last {A : List En} {k : ByteArray} {x : Vn} {t : Int} (hg : Good (A ++ [⟨k, x⟩])) (ht : x.c ≤ t) (hA : ∀ e ∈ A, e.x.c < x.c) : atM (ch (A ++ [⟨k, x⟩]) k) t = some x := by
  refine (hg k).at_spec (mem_ch.2 ⟨⟨k, x⟩, by simp, rfl, rfl⟩) ht fun y hy _ => ?_
  obtain ⟨e, he, -, rfl⟩ := mem_ch.1 hy
  rcases List.mem_append.1 he with he | he
  · have := hA e he
    cases hq : gt e.x x
    · rfl
    · rw [gt_iff] at hq; omega
  · rw [List.mem_singleton.1 he]
    exact gt_irrefl x
theorem at_begin {M : Mm} {i j : Nat} {v : Int} (hi : i < M.ses.length) : (beginM M i v).at j = if i = j then ⟨(M.at i).begun + 1, some ⟨⟨i, (M.at i).begun, M.clock, 0, v, 0, 0, []⟩, []⟩⟩ else M.at j := at_set hi _
theorem at_oper {M : Mm} {i j : Nat} {a : Ac} {o : OpM} (hi : i < M.ses.length) : (operM M i a o).at j = if i = j then ⟨(M.at i).begun, some (addO a M.clock o)⟩ else M.at j := at_set hi _
theorem at_fin {M : Mm} {i j : Nat} {a : Ac} {st : Int} (hi : i < M.ses.length) : (finM M i a st).at j = if i = j then ⟨(M.at i).begun, none⟩ else M.at j := at_set hi _
end Go.Proofs.Ytbjmdpfoeeadeaa.Ch.Mc

namespace Go.Proofs.Ytbjmdpfoeeadeaa.Ch.Mc
open Go.RowKit

/-- The steps l lie in w from address a on; their strings are such as a machine can hold. -/
def StepsAt (w : World) (a : Option Addr) (l : List Stp) : Prop :=
  ∀ i s, l[i]? = some s → ∃ b off, a = some ⟨b, off, none⟩ ∧ b < w.heap.size ∧ w.cell? ⟨b, off + i * 5, none⟩ = some (.int .i64 s.kind) ∧ w.cell? ⟨b, off + i * 5 + 1, none⟩ = some (.int .i64 s.ses) ∧ w.cell? ⟨b, off + i * 5 + 2, none⟩ = some (.int .i64 s.gap) ∧ w.cell? ⟨b, off + i * 5 + 3, none⟩ = some (.string s.key) ∧ w.cell? ⟨b, off + i * 5 + 4, none⟩ = some (.string s.value)
def SmallS (l : List Stp) : Prop := ∀ s ∈ l, s.key.size ≤ maxLen ∧ s.value.size ≤ maxLen
theorem StepsAt.on {w w' : World} {a : Option Addr} {l : List Stp} (h : StepsAt w a l) (k : Kept w w') : StepsAt w' a l := fun i s hs => by
  obtain ⟨b, off, rfl, hb, c0, c1, c2, c3, c4⟩ := h i s hs
  have t : ∀ o, w'.cell? ⟨b, o, none⟩ = w.cell? ⟨b, o, none⟩ := fun o => k.cell (p := ⟨b, o, none⟩) hb (fun e => e)
  exact ⟨b, off, rfl, Nat.lt_of_lt_of_le hb k.size, (t _).trans c0, (t _).trans c1, (t _).trans c2, (t _).trans c3, (t _).trans c4⟩
end Go.Proofs.Ytbjmdpfoeeadeaa.Ch.Mc

namespace Go.Proofs.Ytbjmdpfoeeadeaa.Ch.Mc
open Go.RowKit

/-- The aborts at the end, of the first n sessions. -/
def abM (M : Mm) : Nat → Mm
  | 0 => M
  | n + 1 => (doM (abM M n) ⟨6, n, 0, e0, e0⟩).1
def emM (n : Nat) (fl : Int) (l : List Stp) : Mm := abM (plM (newM n fl) l) n
end Go.Proofs.Ytbjmdpfoeeadeaa.Ch.Mc

namespace Go.Proofs.Ytbjmdpfoeeadeaa.Ch.Mc

/-- How many of a session; is it one's own? -/
def nOf (l : List TxM) (j : Int) : Nat := l.countP fun t => decide (t.f0 = j)
theorem nOf_snoc (l : List TxM) (t : TxM) (j : Int) : nOf (l ++ [t]) j = nOf l j + if t.f0 = j then 1 else 0 := by
  unfold nOf
  rw [List.countP_append]
  simp [List.countP_cons]
/-- A list of finished transactions that is right, by the clock c, of N sessions. -/
structure Lg (N : Nat) (c : Int) (l : List TxM) : Prop where
  one : ∀ t ∈ l, 0 ≤ t.f4 ∧ t.f4 < t.f2 ∧ t.f2 < t.f3 ∧ t.f3 = t.f5 ∧ t.f3 ≤ c ∧ 0 ≤ t.f0 ∧ t.f0 < N
  seq : ∀ (i : Nat) (t : TxM), l[i]? = some t → t.f1 = ((nOf (l.take i) t.f0 : Nat) : Int)
  two : ∀ (k i : Nat) (u t : TxM), k < i → l[k]? = some u → l[i]? = some t → u.f3 < t.f3 ∧ u.f2 ≠ t.f2 ∧ u.f3 ≠ t.f2 ∧ (u.f0 = t.f0 → u.f3 < t.f2)
/-- What stands of any machine's log. -/
structure Lm (N : Nat) (M : Mm) : Prop where
  len : M.ses.length = N
  lg : Lg N M.clock M.log
  c0 : 0 ≤ M.clock
  act : ∀ j a, (M.at j).act = some a → a.t.f0 = (j : Int) ∧ 0 ≤ a.t.f4 ∧ a.t.f4 < a.t.f2 ∧ a.t.f2 ≤ M.clock ∧ a.t.f1 = ((nOf M.log (j : Int) : Nat) : Int) ∧ ∀ t ∈ M.log, t.f2 ≠ a.t.f2 ∧ t.f3 ≠ a.t.f2 ∧ (t.f0 = (j : Int) → t.f3 < a.t.f2)
  dif : ∀ j q a b, j ≠ q → (M.at j).act = some a → (M.at q).act = some b → a.t.f2 ≠ b.t.f2
  bg : ∀ j, j < N → (M.at j).begun = ((nOf M.log (j : Int) : Nat) : Int) + if (M.at j).act.isSome = true then 1 else 0
theorem Lg.mono {N : Nat} {c c' : Int} {l : List TxM} (h : Lg N c l) (hc : c ≤ c') : Lg N c' l := ⟨fun t ht => by
  obtain ⟨a1, a2, a3, a4, a5, a6⟩ := h.one t ht
  exact ⟨a1, a2, a3, a4, by omega, a6⟩, h.seq, h.two⟩
theorem Lm.new (N : Nat) (fl : Int) : Lm N (newM N fl) := ⟨by simp [newM], ⟨fun t ht => (by cases ht), fun i t h => (by simp [newM] at h), fun k i u t _ h => (by simp [newM] at h)⟩, Int.le_refl _, fun j a h => (by rw [at_new] at h; cases h), fun j q a b _ h => (by rw [at_new] at h; cases h), fun j _ => by rw [at_new]; rfl⟩
theorem Lm.tick {N : Nat} {M : Mm} (h : Lm N M) {c : Int} (hc : M.clock ≤ c) : Lm N (M.tick c) := ⟨h.len, h.lg.mono hc, Int.le_trans h.c0 hc, fun j a ha => by
  obtain ⟨a1, a2, a3, a4, a5, a6⟩ := h.act j a ha
  exact ⟨a1, a2, a3, Int.le_trans a4 hc, a5, a6⟩, h.dif, h.bg⟩
/-- A begin at a time that is above all. -/
theorem Lm.begin {N : Nat} {M : Mm} (h : Lm N M) {i : Nat} {c : Int} (hi : i < N) (hn : (M.at i).act = none) (hc : M.clock < c) : Lm N (beginM (M.tick c) i M.clock) := by
  have hil : i < (M.tick c).ses.length := by show i < M.ses.length; rw [h.len]; exact hi
  have e : ∀ j, (beginM (M.tick c) i M.clock).at j = if i = j then ⟨(M.at i).begun + 1, some ⟨⟨i, (M.at i).begun, c, 0, M.clock, 0, 0, []⟩, []⟩⟩ else M.at j := fun j => at_begin hil
  have hb := h.bg i hi
  rw [hn] at hb
  simp only [Option.isSome_none, Bool.false_eq_true, if_false] at hb
  refine ⟨by show (M.ses.set i _).length = N; rw [List.length_set]; exact h.len, h.lg.mono (Int.le_of_lt hc), Int.le_trans h.c0 (Int.le_of_lt hc), fun j a ha => ?_, fun j q a b hjq ha hb => ?_, fun j hj => ?_⟩
  · rw [e] at ha
    split at ha
    · rename_i hij
      subst hij
      cases ha
      refine ⟨rfl, h.c0, hc, Int.le_refl _, by show (M.at i).begun = _; rw [hb]; simp; rfl, fun t ht => ?_⟩
      obtain ⟨a1, a2, a3, a4, a5, a6⟩ := h.lg.one t ht
      show t.f2 ≠ c ∧ t.f3 ≠ c ∧ (_ → t.f3 < c)
      exact ⟨by omega, by omega, fun _ => by omega⟩
    · obtain ⟨a1, a2, a3, a4, a5, a6⟩ := h.act j a ha
      exact ⟨a1, a2, a3, Int.le_trans a4 (Int.le_of_lt hc), a5, a6⟩
  · rw [e] at ha hb
    split at ha
    · cases ha
      split at hb
      · rename_i h1 h2; exact absurd (h1.symm.trans h2) hjq
      · obtain ⟨a1, a2, a3, a4, -⟩ := h.act q b hb
        show c ≠ b.t.f2
        omega
    · split at hb
      · cases hb
        obtain ⟨a1, a2, a3, a4, -⟩ := h.act j a ha
        show a.t.f2 ≠ c
        omega
      · exact h.dif j q a b hjq ha hb
  · rw [e]
    split
    · rename_i hij
      subst hij
      show (M.at i).begun + 1 = _
      rw [hb]
      simp
      rfl
    · exact h.bg j hj
theorem Lm.oper {N : Nat} {M : Mm} (h : Lm N M) {i : Nat} {a : Ac} (ha : (M.at i).act = some a) (o : OpM) : Lm N (operM M i a o) := by
  have e : ∀ j, (operM M i a o).at j = if i = j then ⟨(M.at i).begun, some (addO a M.clock o)⟩ else M.at j := fun j => at_oper (at_lt ha)
  refine ⟨by show (M.ses.set i _).length = N; rw [List.length_set]; exact h.len, h.lg, h.c0, fun j b hb => ?_, fun j q x y hjq hx hy => ?_, fun j hj => ?_⟩
  · rw [e] at hb
    split at hb
    · rename_i hij
      subst hij
      cases hb
      exact h.act i a ha
    · exact h.act j b hb
  · rw [e] at hx hy
    split at hx
    · rename_i h1
      cases hx
      split at hy
      · rename_i h2; exact absurd (h1.symm.trans h2) hjq
      · exact h.dif i q a y (by rw [h1]; exact hjq) ha hy
    · split at hy
      · rename_i h2
        cases hy
        exact h.dif j i x a (by rw [h2]; exact hjq) hx ha
      · exact h.dif j q x y hjq hx hy
  · rw [e]
    have := h.bg j hj
    split
    · rename_i hij
      subst hij
      rw [ha] at this
      exact this
    · exact this
/-- A transaction is finished now. -/
theorem Lm.fin {N : Nat} {M : Mm} (h : Lm N M) {i : Nat} {a : Ac} (ha : (M.at i).act = some a) (hs : a.t.f2 < M.clock) (hl : ∀ t ∈ M.log, t.f3 < M.clock) (ho : ∀ j b, (M.at j).act = some b → b.t.f2 < M.clock) (st : Int) (A : List En) : Lm N (finM { M with A := A } i a st) := by
  have hil := at_lt ha
  have hN : i < N := by rw [← h.len]; exact hil
  have e : ∀ j, (finM { M with A := A } i a st).at j = if i = j then ⟨(M.at i).begun, none⟩ else M.at j := fun j => at_fin (M := { M with A := A }) hil
  obtain ⟨a1, a2, a3, a4, a5, a6⟩ := h.act i a ha
  have hlog : (finM { M with A := A } i a st).log = M.log ++ [endT a.t M.clock st] := rfl
  refine ⟨by show (M.ses.set i _).length = N; rw [List.length_set]; exact h.len, ?_, h.c0, fun j b hb => ?_, fun j q x y hjq hx hy => ?_, fun j hj => ?_⟩
  · show Lg N M.clock (M.log ++ [endT a.t M.clock st])
    refine ⟨fun t ht => ?_, fun q t hq => ?_, fun k q u t hkq hk hq => ?_⟩
    · rcases List.mem_append.1 ht with ht | ht
      · exact h.lg.one t ht
      · rw [List.mem_singleton.1 ht]
        show 0 ≤ a.t.f4 ∧ a.t.f4 < a.t.f2 ∧ a.t.f2 < M.clock ∧ M.clock = M.clock ∧ M.clock ≤ M.clock ∧ 0 ≤ a.t.f0 ∧ a.t.f0 < N
        omega
    · rcases Nat.lt_or_ge q M.log.length with hlt | hge
      · rw [List.getElem?_append_left hlt] at hq
        rw [List.take_append_of_le_length (Nat.le_of_lt hlt)]
        exact h.lg.seq q t hq
      · rw [List.getElem?_append_right hge] at hq
        have h0 : q - M.log.length = 0 := by
          have := (List.getElem?_eq_some_iff.1 hq).1
          simp at this
          omega
        rw [h0] at hq
        simp only [List.getElem?_cons_zero, Option.some.injEq] at hq
        subst hq
        have hql : q = M.log.length := by omega
        rw [hql, List.take_left]
        show a.t.f1 = ((nOf M.log a.t.f0 : Nat) : Int)
        rw [a5, a1]
    · rcases Nat.lt_or_ge q M.log.length with hlt | hge
      · rw [List.getElem?_append_left hlt] at hq
        rw [List.getElem?_append_left (by omega)] at hk
        exact h.lg.two k q u t hkq hk hq
      · rw [List.getElem?_append_right hge] at hq
        have h0 : q - M.log.length = 0 := by
          have := (List.getElem?_eq_some_iff.1 hq).1
          simp at this
          omega
        rw [h0] at hq
        simp only [List.getElem?_cons_zero, Option.some.injEq] at hq
        subst hq
        rw [List.getElem?_append_left (by omega)] at hk
        have hu := List.mem_of_getElem? hk
        obtain ⟨b1, b2, b3⟩ := a6 u hu
        exact ⟨hl u hu, b1, b2, fun hf => b3 (hf.trans a1)⟩
  · rw [e] at hb
    split at hb
    · cases hb
    · rename_i hij
      obtain ⟨b1, b2, b3, b4, b5, b6⟩ := h.act j b hb
      have hne : ¬ (a.t.f0 = (j : Int)) := by rw [a1]; omega
      refine ⟨b1, b2, b3, b4, ?_, fun t ht => ?_⟩
      · show b.t.f1 = ((nOf (M.log ++ [endT a.t M.clock st]) (j : Int) : Nat) : Int)
        rw [nOf_snoc, if_neg (show ¬ (endT a.t M.clock st).f0 = (j : Int) from hne)]
        exact b5
      · have ht' : t ∈ M.log ++ [endT a.t M.clock st] := ht
        rcases List.mem_append.1 ht' with ht | ht
        · exact b6 t ht
        · rw [List.mem_singleton.1 ht]
          have h9 := ho j b hb
          exact ⟨h.dif i j a b hij ha hb, by show M.clock ≠ b.t.f2; omega, fun hf => absurd hf hne⟩
  · rw [e] at hx hy
    split at hx
    · cases hx
    · split at hy
      · cases hy
      · exact h.dif j q x y hjq hx hy
  · rw [e]
    have hb := h.bg j hj
    show _ = ((nOf (M.log ++ [endT a.t M.clock st]) (j : Int) : Nat) : Int) + _
    rw [nOf_snoc]
    split
    · rename_i hij
      subst hij
      rw [ha] at hb
      rw [if_pos (show (endT a.t M.clock st).f0 = (i : Int) from a1)]
      simp only [Option.isSome_some, if_true, Option.isSome_none, Bool.false_eq_true, if_false] at hb ⊢
      omega
    · rename_i hij
      rw [if_neg (show ¬ (endT a.t M.clock st).f0 = (j : Int) from by show ¬ a.t.f0 = (j : Int); rw [a1]; omega)]
      exact hb
theorem Lm.step {N : Nat} {M : Mm} (h : Lm N M) (s : Stp) : Lm N (doM M s).1 := by
  by_cases hc : codeD M s = 0
  · obtain ⟨hB, hU⟩ := codeD_zero hc
    obtain ⟨-, b2, b3, -, -⟩ := codeB_zero hB
    rw [do_ok hc]
    have hct : M.clock < M.clock + 1 + s.gap := by omega
    have ht := h.tick (Int.le_of_lt hct)
    have hl : ∀ t ∈ (M.tick (M.clock + 1 + s.gap)).log, t.f3 < (M.tick (M.clock + 1 + s.gap)).clock := fun t ht' => by
      have := (h.lg.one t ht').2.2.2.2.1
      show t.f3 < M.clock + 1 + s.gap
      omega
    have ho : ∀ j b, ((M.tick (M.clock + 1 + s.gap)).at j).act = some b → b.t.f2 < (M.tick (M.clock + 1 + s.gap)).clock := fun j b hb => by
      obtain ⟨-, -, -, h4, -⟩ := h.act j b hb
      show b.t.f2 < M.clock + 1 + s.gap
      omega
    have hiN : s.ses.toNat < N := by rw [← h.len]; omega
    unfold goM
    split
    · rename_i hn
      exact h.begin hiN hn hct
    · rename_i a ha
      have hs := ho _ a ha
      split
      · exact ht.oper ha _
      split
      · exact ht.oper ha _
      split
      · exact ht.oper ha _
      split
      · unfold comtM
        split
        · exact ht.fin ha hs hl ho 0 M.A
        · exact ht.fin ha hs hl ho 1 _
      · exact ht.fin ha hs hl ho 0 M.A
  · rw [do_no hc]
    exact h
theorem do_begun (M : Mm) (s : Stp) : (doM M s).1.begun ≤ M.begun + (if s.kind = 1 then 1 else 0) := by
  by_cases hc : codeD M s = 0
  · rw [do_ok hc]
    obtain ⟨-, hU⟩ := codeD_zero hc
    obtain ⟨-, u2, -⟩ := codeU_zero hU
    unfold goM
    split
    · rename_i hn
      have hk : s.kind = 1 := Classical.byContradiction fun hk => by
        obtain ⟨a, ha, -⟩ := u2 hk
        rw [show (M.at s.ses.toNat).act = none from hn] at ha
        cases ha
      rw [if_pos hk]
      exact Int.le_refl _
    · have h0 : M.begun ≤ M.begun + (if s.kind = 1 then 1 else 0) := by split <;> omega
      split
      · exact h0
      split
      · exact h0
      split
      · exact h0
      split
      · unfold comtM
        split <;> exact h0
      · exact h0
  · rw [do_no hc]
    show M.begun ≤ _
    split <;> omega
theorem pl_lm {N : Nat} (l : List Stp) {M : Mm} (h : Lm N M) : Lm N (plM M l) ∧ (plM M l).begun ≤ M.begun + l.length := by
  induction l generalizing M with
  | nil => exact ⟨h, by show M.begun ≤ M.begun + 0; omega⟩
  | cons s r ih =>
    obtain ⟨h1, h2⟩ := ih (h.step s)
    refine ⟨h1, ?_⟩
    have h3 := do_begun M s
    have h4 : (if s.kind = 1 then (1 : Int) else 0) ≤ 1 := by split <;> omega
    show (plM (doM M s).1 r).begun ≤ M.begun + ((r.length + 1 : Nat) : Int)
    omega
theorem ab_lm {N : Nat} {M : Mm} (h : Lm N M) (q : Nat) : Lm N (abM M q) ∧ (abM M q).begun ≤ M.begun := by
  induction q with
  | zero => exact ⟨h, Int.le_refl _⟩
  | succ q ih =>
    have h3 := do_begun (abM M q) ⟨6, q, 0, e0, e0⟩
    rw [if_neg (by simp)] at h3
    exact ⟨ih.1.step _, by show (doM (abM M q) ⟨6, q, 0, e0, e0⟩).1.begun ≤ _; have := ih.2; omega⟩
theorem em_inv {N : Nat} (fl : Int) (l : List Stp) (h0 : 1 ≤ N) (h1 : N ≤ 64) : Inv (emM N fl l) := by
  have h5 : ∀ (l : List Stp) {M : Mm}, Inv M → Inv (plM M l) := fun l => by
    induction l with
    | nil => exact fun h => h
    | cons s r ih => exact fun h => ih (h.step s)
  have h6 : ∀ q {M : Mm}, Inv M → Inv (abM M q) := fun q => by
    induction q with
    | zero => exact fun h => h
    | succ q ih => exact fun h => (ih h).step _
  exact h6 N (h5 l (Inv.new h0 h1 fl))
/-- The log that is emitted. -/
theorem em_log {N : Nat} (fl : Int) (l : List Stp) (h0 : 1 ≤ N) (h1 : N ≤ 64) : Lg N (emM N fl l).clock (emM N fl l).log ∧ (emM N fl l).log.length ≤ l.length ∧ (emM N fl l).log.length ≤ 4096 := by
  obtain ⟨a1, a2⟩ := pl_lm l (Lm.new N fl)
  obtain ⟨b1, b2⟩ := ab_lm a1 N
  have hi := em_inv fl l h0 h1
  have hc := hi.cnt
  have hb := hi.b1
  have h9 : (newM N fl).begun = 0 := rfl
  refine ⟨b1.lg, ?_, by omega⟩
  have h8 : (emM N fl l).begun ≤ l.length := by
    have : (emM N fl l).begun ≤ (plM (newM N fl) l).begun := b2
    omega
  omega
end Go.Proofs.Ytbjmdpfoeeadeaa.Ch.Mc

namespace Go.Proofs.Ytbjmdpfoeeadeaa.Ch.Mc

/-- An operation that is right; what a write or a delete leaves. -/
def rtO (o : OpM) : Prop := 0 < o.key.size ∧ o.key.size ≤ 8 ∧ o.value.size ≤ 16 ∧ ((o.kind = 1 ∧ (o.found = true ∨ o.value.size = 0)) ∨ (o.kind = 2 ∧ o.found = true) ∨ (o.kind = 3 ∧ o.found = false ∧ o.value.size = 0))
def rtV (f : Bool) (v : ByteArray) : Prop := v.size ≤ 16 ∧ (f = true ∨ v.size = 0)
theorem rtO.v {o : OpM} (h : rtO o) : rtV o.found o.value := by
  obtain ⟨-, -, h1, h2⟩ := h
  refine ⟨h1, ?_⟩
  rcases h2 with ⟨-, h⟩ | ⟨-, h⟩ | ⟨-, -, h⟩
  · exact h
  · exact .inl h
  · exact .inr h
/-- What stands of any machine's transactions and versions. -/
structure Vr (M : Mm) : Prop where
  A : ∀ e ∈ M.A, rtV e.x.f e.x.v
  act : ∀ j a, (M.at j).act = some a → ∀ o ∈ a.t.ops, rtO o
  log : ∀ t ∈ M.log, (t.f6 = 0 ∨ t.f6 = 1) ∧ t.ops.length ≤ 16 ∧ ∀ o ∈ t.ops, rtO o
theorem Vr.new (n : Nat) (fl : Int) : Vr (newM n fl) := ⟨(fun e h => by cases h), (fun j a h => by rw [at_new] at h; cases h), (fun t h => by cases h)⟩
theorem Vr.tick {M : Mm} (h : Vr M) (c : Int) : Vr (M.tick c) := ⟨h.A, h.act, h.log⟩
theorem rtV_none : rtV v0.f v0.v := ⟨Nat.zero_le _, .inr rfl⟩
theorem at_rtV {A : List En} (h : ∀ e ∈ A, rtV e.x.f e.x.v) (k : ByteArray) (t : Int) : rtV ((atM (ch A k) t).getD v0).f ((atM (ch A k) t).getD v0).v := by
  unfold atM
  split
  · exact rtV_none
  · cases e : (ch A k)[cnt (ch A k) t - 1]? with
    | none => exact rtV_none
    | some v =>
      have hm := List.mem_of_getElem? e
      unfold ch at hm
      obtain ⟨x, hx, rfl⟩ := List.mem_map.1 hm
      exact h x (List.mem_filter.1 hx).1
theorem com_rtV {A : List En} (h : ∀ e ∈ A, rtV e.x.f e.x.v) (fl c : Int) (k : ByteArray) (t : Int) : rtV (comM fl c A k t).f (comM fl c A k t).v := by
  unfold comM
  have h1 := at_rtV h k (if fl = 2 then c else t)
  cases e : atM (ch A k) (if fl = 2 then c else t) with
  | none => exact rtV_none
  | some v =>
    rw [e] at h1
    simp only
    split
    · exact at_rtV h k _
    · exact h1
theorem getDz_mem {l : List OpM} {i : Nat} (h : i < l.length) : l.getD i z0 ∈ l := by
  rw [List.getD_eq_getElem?_getD, List.getElem?_eq_getElem h]
  exact List.getElem_mem h
theorem drt_rtV {S : List Sn} (h : ∀ j a, (S.getD j sn0).act = some a → ∀ o ∈ a.t.ops, rtO o) (k : ByteArray) (n : Nat) : rtV (drt S k n).1.found (drt S k n).1.value := by
  induction n with
  | zero => exact ⟨Nat.zero_le _, .inr rfl⟩
  | succ n ih =>
    unfold drt
    split
    · exact ih
    · rename_i a ha
      split
      · exact ih
      · rename_i i hi
        split
        · exact (h n a ha _ (getDz_mem (lastW_lt hi))).v
        · exact ih
theorem see_rtV {M : Mm} (h : Vr M) {t : TxM} (ht : ∀ o ∈ t.ops, rtO o) (k : ByteArray) : rtV (seeM M t k).1 (seeM M t k).2 := by
  unfold seeM
  split
  · rename_i i hi
    exact (ht _ (getDz_mem (lastW_lt hi))).v
  · split
    · exact drt_rtV h.act k _
    · exact com_rtV h.A _ _ _ _
theorem insts_rtV {l : List OpM} {A : List En} {c n : Int} (h : ∀ e ∈ A, rtV e.x.f e.x.v) (hl : ∀ o ∈ l, rtO o) : ∀ e ∈ insts A c n l, rtV e.x.f e.x.v := by
  induction l generalizing A with
  | nil => exact h
  | cons o r ih =>
    refine ih (A := inst A o.key ⟨c, n, o.found, o.value⟩) (fun e he => ?_) (fun o' ho' => hl o' (List.mem_cons_of_mem _ ho'))
    unfold inst at he
    split at he
    · rcases List.mem_append.1 he with he | he
      · exact h e he
      · obtain rfl := List.mem_singleton.1 he
        exact (hl o (List.mem_cons_self ..)).v
    · exact h e he
theorem at_put {M : Mm} {i : Nat} (hi : i < M.ses.length) (s : Sn) (j : Nat) : (M.ses.set i s).getD j sn0 = if i = j then s else M.at j := at_set hi s
theorem Vr.setA {M : Mm} (h : Vr M) {i : Nat} (hi : i < M.ses.length) {s : Sn} (hs : ∀ a, s.act = some a → ∀ o ∈ a.t.ops, rtO o) : ∀ j a, ((M.ses.set i s).getD j sn0).act = some a → ∀ o ∈ a.t.ops, rtO o := fun j a ha => by
  rw [at_put hi] at ha
  split at ha
  · exact hs a ha
  · exact h.act j a ha
theorem Vr.fin_ {M : Mm} (h : Vr M) {i : Nat} (hi : i < M.ses.length) {a : Ac} (ha : (M.at i).act = some a) (hn : a.t.ops.length ≤ 16) {st : Int} (hst : st = 0 ∨ st = 1) {A : List En} (hA : ∀ e ∈ A, rtV e.x.f e.x.v) : Vr (finM { M with A := A } i a st) :=
  ⟨hA, h.setA hi (fun a h => by cases h), fun t ht => by
    rcases List.mem_append.1 ht with ht | ht
    · exact h.log t ht
    · obtain rfl := List.mem_singleton.1 ht
      exact ⟨hst, hn, h.act i a ha⟩⟩
theorem Vr.oper {M : Mm} (h : Vr M) {i : Nat} (hi : i < M.ses.length) {a : Ac} (ha : (M.at i).act = some a) {o : OpM} (ho : rtO o) : Vr (operM M i a o) :=
  ⟨h.A, h.setA hi (fun b hb => by
    cases hb
    intro o' ho'
    rcases List.mem_append.1 ho' with ho' | ho'
    · exact h.act i a ha o' ho'
    · obtain rfl := List.mem_singleton.1 ho'
      exact ho), h.log⟩
theorem outc_in {l : List OpM} {o : OpM} (h : o ∈ outc l) : o ∈ l := by
  obtain ⟨i, h1, -, rfl⟩ := (oc_in l.length).1 h
  exact getDz_mem h1
theorem Vr.step {M : Mm} (h : Vr M) (hi : Inv M) (s : Stp) : Vr (doM M s).1 := by
  unfold doM
  split
  · rename_i h0
    obtain ⟨hB, hU⟩ := codeD_zero h0
    obtain ⟨⟨k1, k2⟩, ⟨b1, b2⟩, -, hk, hv⟩ := codeB_zero hB
    have ht := h.tick (M.clock + 1 + s.gap)
    have hl : s.ses.toNat < (M.tick (M.clock + 1 + s.gap)).ses.length := by show s.ses.toNat < M.ses.length; omega
    unfold goM
    split
    · exact ⟨h.A, ht.setA hl (fun b hb => by cases hb; intro o ho; cases ho), h.log⟩
    · rename_i a ha
      have hn : a.t.ops.length ≤ 16 := (hi.ac _ a ha).n
      split
      · rename_i e
        obtain ⟨q1, q2⟩ := hk (.inl e)
        obtain ⟨q3, q4⟩ := see_rtV ht (ht.act _ a ha) s.key
        exact ht.oper hl ha ⟨q1, q2, q3, .inl ⟨rfl, q4⟩⟩
      split
      · rename_i e
        obtain ⟨q1, q2⟩ := hk (.inr (.inl e))
        exact ht.oper hl ha ⟨q1, q2, hv e, .inr (.inl ⟨rfl, rfl⟩)⟩
      split
      · rename_i e
        obtain ⟨q1, q2⟩ := hk (.inr (.inr e))
        exact ht.oper hl ha ⟨q1, q2, Nat.zero_le _, .inr (.inr ⟨rfl, rfl, rfl⟩)⟩
      split
      · show Vr (comtM (M.tick (M.clock + 1 + s.gap)) s.ses.toNat a)
        unfold comtM
        split
        · exact ht.fin_ hl ha hn (.inl rfl) ht.A
        · exact ht.fin_ hl ha hn (.inr rfl) (insts_rtV ht.A fun o ho => ht.act _ a ha o (outc_in ho))
      · exact ht.fin_ hl ha hn (.inl rfl) ht.A
  · exact h
theorem Vr.em {N : Nat} (fl : Int) (l : List Stp) (h0 : 1 ≤ N) (h1 : N ≤ 64) : Vr (emM N fl l) := by
  have h5 : ∀ (l : List Stp) {M : Mm}, Inv M ∧ Vr M → Inv (plM M l) ∧ Vr (plM M l) := fun l => by
    induction l with
    | nil => exact fun h => h
    | cons s r ih => exact fun h => ih ⟨h.1.step s, h.2.step h.1 s⟩
  have h6 : ∀ q {M : Mm}, Inv M ∧ Vr M → Inv (abM M q) ∧ Vr (abM M q) := fun q => by
    induction q with
    | zero => exact fun h => h
    | succ q ih => exact fun h => ⟨(ih h).1.step _, (ih h).2.step (ih h).1 _⟩
  exact (h6 N (h5 l ⟨Inv.new h0 h1 fl, Vr.new N fl⟩)).2
/-- A transaction that is right. -/
structure RtT (t : TxM) : Prop where
  f0 : 0 ≤ t.f0 ∧ t.f0 ≤ 1048575
  f1 : 0 ≤ t.f1 ∧ t.f1 ≤ 1048575
  f2 : 0 ≤ t.f2 ∧ t.f2 ≤ 1099511627776
  f3 : 0 ≤ t.f3 ∧ t.f3 ≤ 1099511627776
  f4 : 0 ≤ t.f4 ∧ t.f4 ≤ 1099511627776
  f5 : 0 ≤ t.f5 ∧ t.f5 ≤ 1099511627776
  f6 : 0 ≤ t.f6 ∧ t.f6 ≤ 1
  n : t.ops.length ≤ 16
  o : ∀ o ∈ t.ops, rtO o
/-- All that is emitted. -/
theorem em_right {N : Nat} (fl : Int) (l : List Stp) (h0 : 1 ≤ N) (h1 : N ≤ 64) : ∀ t ∈ (emM N fl l).log, RtT t := fun t ht => by
  obtain ⟨a1, -, a3⟩ := em_log fl l h0 h1
  obtain ⟨b1, b2, b3, b4, b5, b6, b7⟩ := a1.one t ht
  obtain ⟨c1, c2, c3⟩ := (Vr.em fl l h0 h1).log t ht
  have hc := (em_inv fl l h0 h1).c1
  obtain ⟨i, hi⟩ := List.getElem?_of_mem ht
  have hs := a1.seq i t hi
  have hcn : nOf ((emM N fl l).log.take i) t.f0 ≤ 4096 := Nat.le_trans List.countP_le_length (Nat.le_trans (by rw [List.length_take]; exact Nat.min_le_right _ _) a3)
  exact ⟨by omega, by omega, by omega, by omega, by omega, by omega, by omega, c2, c3⟩
end Go.Proofs.Ytbjmdpfoeeadeaa.Ch.Mc

namespace Go.Proofs.Ytbjmdpfoeeadeaa.Ch.Mc
open Go.ChangeShapes Go.WideShapes Go.ChangeAt Go.RowKit

theorem Try.laid5 : laidOutB Try.prog = true := by kernel_rfl
theorem Try.cellsI : Try.prog.cellsOf 3 = 1 := by kernel_rfl
theorem Try.cellsS : Try.prog.cellsOf 9 = 1 := by kernel_rfl
theorem Try.cellsO15 : Try.prog.cellsOf 92 = 5 := by kernel_rfl
theorem Try.bytesO15 : Try.prog.bytesOf 92 = 56 := by kernel_rfl
theorem list_of {α : Type} (n : Nat) (q : Nat → α) : ((List.range n).map q).length = n ∧ ∀ i x, ((List.range n).map q)[i]? = some x → i < n ∧ x = q i := by
  refine ⟨by simp, fun i x h => ?_⟩
  have hi := (List.getElem?_eq_some_iff.1 h).1
  simp only [List.length_map, List.length_range] at hi
  rw [List.getElem?_map, List.getElem?_range hi] at h
  simp only [Option.map_some, Option.some.injEq] at h
  exact ⟨hi, h.symm⟩
set_option maxRecDepth 100000 in
theorem step_of {H : Type} {enc : TypeId × Value → H} {W : World} {fuel : Nat} {cl : List Value} {d : DataW H} {p : List MemPlace} (hsz : cl.length = 5)
    (h : DataW.trod enc Try.prog W 0 (fun _ => true) true fuel 92 cl = some (d, p)) : ∃ s : Stp, cl = [.int .i64 s.kind, .int .i64 s.ses, .int .i64 s.gap, .string s.key, .string s.value] ∧ s.key.size ≤ maxLen ∧ s.value.size ≤ maxLen := by
  obtain ⟨xs, k, hk, hxy, _, hxl, hf⟩ := DataW.trod_struct Try.underlying92 h
  match xs, hxl, cl, hsz with
  | [y0, y1, y2, y3, y4], _, [v0, v1, v2, v3, v4], _ =>
    have g0 := hf 0 _ rfl
    have g1 := hf 1 _ rfl
    have g2 := hf 2 _ rfl
    have g3 := hf 3 _ rfl
    have g4 := hf 4 _ rfl
    simp [Try.cellsI, Try.cellsS] at g0 g1 g2 g3 g4
    obtain ⟨n0, e0, _⟩ := DataW.trod_int Try.underlying3 g0
    obtain ⟨n1, e1, _⟩ := DataW.trod_int Try.underlying3 g1
    obtain ⟨n2, e2, _⟩ := DataW.trod_int Try.underlying3 g2
    obtain ⟨n3, e3, _, hs3⟩ := DataW.trod_string Try.underlying9 g3
    obtain ⟨n4, e4, _, hs4⟩ := DataW.trod_string Try.underlying9 g4
    simp only [List.cons.injEq, and_true] at e0 e1 e2 e3 e4
    subst e0 e1 e2 e3 e4
    exact ⟨⟨n0, n1, n2, n3, n4⟩, rfl, hs3, hs4⟩
instance : Inhabited Stp := ⟨⟨0, 0, 0, ⟨#[]⟩, ⟨#[]⟩⟩⟩
/-- A script that can be read. -/
def ArgS (W : World) (a : Option Addr) (l : List Stp) : Prop := StepsAt W a l ∧ SmallS l ∧ l.length ≤ 2513169434918
set_option maxRecDepth 100000 in
theorem open_steps {H : Type} {enc : TypeId × Value → H} {W : World} {fuel : Nat} {sa : Option Addr} {len cap : Nat} {d : DataW H} {p : List MemPlace}
    (h : DataW.trod enc Try.prog W 0 (fun _ => true) true fuel 63 [.slice sa len cap] = some (d, p)) : ∃ l : List Stp, len = l.length ∧ ((∀ n ∈ d.weights Try.prog 63, n ≤ reachBytes) → ArgS W sa l) := by
  rcases Go.Deep.open_slice Try.underlying63 h with ⟨hcs, hd⟩ | ⟨a, len', cap', m, n, D, Pl, hcs, _, hl, hm, hmm, hd, hx⟩
  · simp only [List.cons.injEq, Value.slice.injEq, and_true] at hcs
    obtain ⟨rfl, rfl, rfl⟩ := hcs
    exact ⟨[], rfl, fun _ => ⟨fun i o ho => by simp at ho, fun o ho => by simp at ho, by simp⟩⟩
  · simp only [List.cons.injEq, Value.slice.injEq, and_true] at hcs
    obtain ⟨rfl, rfl, rfl⟩ := hcs
    simp only [if_true] at hmm
    simp only [Prod.mk.injEq] at hd
    have each : ∀ i, i < len → ∃ o : Stp, (W.cell? (a.add (i * 5)) = some (.int .i64 o.kind) ∧ W.cell? (a.add (i * 5 + 1)) = some (.int .i64 o.ses) ∧ W.cell? (a.add (i * 5 + 2)) = some (.int .i64 o.gap) ∧ W.cell? (a.add (i * 5 + 3)) = some (.string o.key) ∧ W.cell? (a.add (i * 5 + 4)) = some (.string o.value)) ∧ o.key.size ≤ maxLen ∧ o.value.size ≤ maxLen := by
      intro i hi
      obtain ⟨cs', h1, h2⟩ := hx i (by omega)
      rw [Try.cellsO15] at h1
      obtain ⟨_, hlen, hcell⟩ := World.cells?_some h1
      obtain ⟨o, rfl, hs⟩ := step_of hlen h2
      have c0 := hcell 0 (by omega)
      have c1 := hcell 1 (by omega)
      have c2 := hcell 2 (by omega)
      have c3 := hcell 3 (by omega)
      have c4 := hcell 4 (by omega)
      rw [Go.Deep.add_add] at c0 c1 c2 c3 c4
      exact ⟨o, ⟨by simpa using c0, by simpa using c1, by simpa using c2, by simpa using c3, by simpa using c4⟩, hs⟩
    obtain ⟨q, hq⟩ := Go.Deep.choose_lt each
    obtain ⟨e1, e2⟩ := list_of len q
    refine ⟨(List.range len).map q, e1.symm, fun hw => ⟨fun i x hi => ?_, fun o ho => ?_, ?_⟩⟩
    · obtain ⟨hi', rfl⟩ := e2 i x hi
      obtain ⟨⟨h0, h1, h2, h3, h4⟩, -⟩ := hq i hi'
      obtain ⟨⟨h00, _⟩, _⟩ := hq 0 (by omega)
      obtain ⟨b, off, spot⟩ := a
      have hspot : spot = none := by simpa [Addr.add] using World.cell?_spot h00
      subst hspot
      rw [Go.WideShapes.add_plain] at h0 h1 h2 h3 h4
      exact ⟨b, off, rfl, World.block_lt_of_cell? W _ h0, h0, h1, h2, h3, h4⟩
    · obtain ⟨i, hi, rfl⟩ := List.mem_map.1 ho
      exact (hq i (List.mem_range.1 hi)).2
    · rw [e1]
      have := hw ((len + (m - len)) * 56) (by
        rw [hd.1]
        simp only [DataW.weights, Try.underlying63, Try.bytesO15, List.length_map, List.length_range]
        exact List.mem_cons_self)
      unfold reachBytes at this
      omega
end Go.Proofs.Ytbjmdpfoeeadeaa.Ch.Mc
