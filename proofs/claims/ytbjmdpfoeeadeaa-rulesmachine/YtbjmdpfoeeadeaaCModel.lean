/- What is proved: plain facts on chains of versions: which are seen, which are pruned, which may be installed; no condition. -/
import Derived.Test.YtbjmdpfoeeadeaaDBase
namespace Go.Proofs.Ytbjmdpfoeeadeaa.Ch

/-- A version; and one with its key. -/
structure Vn where
  c : Int
  w : Int
  f : Bool
  v : ByteArray
structure En where
  key : ByteArray
  x : Vn
/-- No version. -/
def v0 : Vn := ⟨0, 0, false, ⟨#[]⟩⟩
instance : Inhabited Vn := ⟨v0⟩
instance : Inhabited En := ⟨⟨⟨#[]⟩, v0⟩⟩
/-- Is a above b? -/
def gt (a b : Vn) : Bool := decide (b.c < a.c ∨ (a.c = b.c ∧ b.w < a.w))
theorem gt_iff (a b : Vn) : gt a b = true ↔ (b.c < a.c ∨ (a.c = b.c ∧ b.w < a.w)) := by simp [gt]
theorem gt_trans {a b c : Vn} (h : gt a b = true) (k : gt b c = true) : gt a c = true := by
  rw [gt_iff] at *; omega
theorem gt_irrefl (a : Vn) : gt a a = false := by simp [gt]
theorem gt_total {a b : Vn} (h : gt a b = false) (x : Vn) (k : gt a x = true) : gt b x = true := by
  have h' : ¬ (b.c < a.c ∨ (a.c = b.c ∧ b.w < a.w)) := fun e => by rw [(gt_iff a b).2 e] at h; cases h
  rw [gt_iff] at *; omega
theorem gt_asym {a b : Vn} (h : gt a b = true) : gt b a = false := by
  cases e : gt b a
  · rfl
  · have := gt_trans h e
    rw [gt_irrefl] at this; cases this
theorem gt_of_not {a b x : Vn} (h : gt a b = true) (k : gt x b = false) : gt a x = true := by
  have k' : ¬ (b.c < x.c ∨ (x.c = b.c ∧ b.w < x.w)) := fun e => by rw [(gt_iff x b).2 e] at k; cases k
  rw [gt_iff] at *; omega
theorem gt_c {a b : Vn} (h : gt b a = true) : a.c ≤ b.c := by rw [gt_iff] at h; omega

/-- Is it the key k? -/
def isK (k : ByteArray) (e : En) : Bool := e.key.toList == k.toList
/-- A key's versions. -/
def ch (A : List En) (k : ByteArray) : List Vn := (A.filter (isK k)).map (·.x)
theorem isK_congr {k k' : ByteArray} (h : k.toList = k'.toList) : isK k = isK k' := by funext e; simp [isK, h]
theorem ch_congr {k k' : ByteArray} (h : k.toList = k'.toList) (A : List En) : ch A k = ch A k' := by simp [ch, isK_congr h]
theorem ch_nil (k : ByteArray) : ch [] k = [] := rfl
theorem ch_append (A B : List En) (k : ByteArray) : ch (A ++ B) k = ch A k ++ ch B k := by simp [ch]
theorem ch_one_same {k k' : ByteArray} (h : k.toList = k'.toList) (x : Vn) : ch [⟨k, x⟩] k' = [x] := by simp [ch, isK, h]
theorem ch_one_other {k k' : ByteArray} (h : k.toList ≠ k'.toList) (x : Vn) : ch [⟨k, x⟩] k' = [] := by simp [ch, isK, h]
theorem ch_length_le (A : List En) (k : ByteArray) : (ch A k).length ≤ A.length := by
  simp only [ch, List.length_map]
  exact List.length_filter_le _ _
theorem ch_ne_nil {A : List En} {k : ByteArray} : ch A k ≠ [] ↔ ∃ e ∈ A, e.key.toList = k.toList := by
  simp only [ch, ne_eq, List.map_eq_nil_iff, List.filter_eq_nil_iff, isK, beq_iff_eq]
  constructor
  · intro h
    refine Classical.byContradiction fun h' => h fun a ha e => h' ⟨a, ha, e⟩
  · rintro ⟨e, he, h⟩ h'
    exact h' e he h
theorem mem_ch {A : List En} {k : ByteArray} {x : Vn} : x ∈ ch A k ↔ ∃ e ∈ A, e.key.toList = k.toList ∧ e.x = x := by
  simp [ch, isK, and_assoc]

/-- Rising. -/
def Asc (l : List Vn) : Prop := l.Pairwise fun a b => gt b a = true
theorem Asc.nil : Asc [] := List.Pairwise.nil
/-- All chains rise. -/
def Good (A : List En) : Prop := ∀ k, Asc (ch A k)
theorem Good.nil : Good [] := fun _ => List.Pairwise.nil

/-- A version within its bounds. -/
def rightV (x : Vn) : Bool := decide (0 ≤ x.c ∧ x.c ≤ 1099511627776 ∧ 0 ≤ x.w ∧ x.w < 4096 ∧ x.v.size ≤ 16 ∧ (x.f = true ∨ x.v.size = 0))
def rightK (k : ByteArray) : Bool := decide (0 < k.size ∧ k.size ≤ 8)
/-- Is there one that x is not above? -/
def stale (l : List Vn) (x : Vn) : Bool := l.any fun y => !gt x y
/-- What Install answers. -/
def code (A : List En) (k : ByteArray) (x : Vn) : Int := if rightK k = false then 130 else if rightV x = false then 131 else if stale (ch A k) x = true then 132 else 0
/-- What Install leaves. -/
def inst (A : List En) (k : ByteArray) (x : Vn) : List En := if code A k x = 0 then A ++ [⟨k, x⟩] else A
theorem stale_last {l : List Vn} {y : Vn} (h : Asc (l ++ [y])) (x : Vn) : stale (l ++ [y]) x = !gt x y := by
  cases e : gt x y
  · simp [stale, e]
  · simp only [stale, List.any_append, List.any_cons, List.any_nil, Bool.or_false, e, Bool.not_true, Bool.or_false, List.any_eq_false, Bool.not_eq_true', Bool.not_eq_false]
    intro z hz
    have := (List.pairwise_append.1 h).2.2 z hz y (by simp)
    simpa using gt_trans e this
theorem code_zero {A : List En} {k : ByteArray} {x : Vn} (h : code A k x = 0) : rightK k = true ∧ rightV x = true ∧ stale (ch A k) x = false := by
  unfold code at h
  cases h1 : rightK k <;> cases h2 : rightV x <;> cases h3 : stale (ch A k) x <;> simp [h1, h2, h3] at h ⊢
theorem Good.inst {A : List En} (h : Good A) (k : ByteArray) (x : Vn) : Good (inst A k x) := by
  unfold Ytbjmdpfoeeadeaa.Ch.inst
  split
  · rename_i h0
    obtain ⟨_, _, h3⟩ := code_zero h0
    intro k'
    rw [ch_append]
    by_cases e : k.toList = k'.toList
    · rw [ch_one_same e, ← ch_congr e A]
      refine List.pairwise_append.2 ⟨h k, List.pairwise_singleton _ _, fun a ha b hb => ?_⟩
      simp only [List.mem_singleton] at hb
      subst hb
      simp only [stale, List.any_eq_false, Bool.not_eq_true', Bool.not_eq_false] at h3
      simpa using h3 a ha
    · rw [ch_one_other e, List.append_nil]
      exact h k'
  · exact h
theorem inst_length (A : List En) (k : ByteArray) (x : Vn) : (inst A k x).length ≤ A.length + 1 := by
  unfold Ytbjmdpfoeeadeaa.Ch.inst; split <;> simp

/-- How many are there by the time t? -/
def cnt (l : List Vn) (t : Int) : Nat := l.countP fun y => decide (y.c ≤ t)
theorem cnt_le (l : List Vn) (t : Int) : cnt l t ≤ l.length := List.countP_le_length
theorem Asc.cmono {l : List Vn} (h : Asc l) {i j : Nat} {a b : Vn} (hi : l[i]? = some a) (hj : l[j]? = some b) (hij : i ≤ j) : a.c ≤ b.c := by
  obtain ⟨h1, rfl⟩ := List.getElem?_eq_some_iff.1 hi
  obtain ⟨h2, rfl⟩ := List.getElem?_eq_some_iff.1 hj
  rcases Nat.lt_or_eq_of_le hij with hlt | rfl
  · exact gt_c (List.pairwise_iff_getElem.1 h i j h1 h2 hlt)
  · exact Int.le_refl _
/-- The first cnt are those at or below the time. -/
theorem Asc.cnt_iff {l : List Vn} (h : Asc l) (t : Int) {i : Nat} {a : Vn} (hi : l[i]? = some a) : i < cnt l t ↔ a.c ≤ t := by
  induction l generalizing i with
  | nil => simp at hi
  | cons b r ih =>
    obtain ⟨h1, h2⟩ := List.pairwise_cons.1 h
    cases i with
    | zero =>
      simp only [List.getElem?_cons_zero, Option.some.injEq] at hi
      subst hi
      unfold cnt
      rw [List.countP_cons]
      by_cases hb : b.c ≤ t
      · simp [hb]
      · have : r.countP (fun y => decide (y.c ≤ t)) = 0 := by
          rw [List.countP_eq_zero]
          intro z hz
          have := gt_c (h1 z hz)
          simp; omega
        simp [hb, this]
    | succ i =>
      simp only [List.getElem?_cons_succ] at hi
      have := ih h2 hi
      unfold cnt at *
      rw [List.countP_cons]
      have hm : a ∈ r := List.mem_of_getElem? hi
      have hbc := gt_c (h1 a hm)
      by_cases hb : b.c ≤ t
      · simp only [hb, decide_true, if_true]
        omega
      · simp only [hb, decide_false, Bool.false_eq_true, if_false, Nat.add_zero]
        constructor
        · intro h'; have := this.1 (by omega); omega
        · intro h'; omega
theorem Asc.take_cnt {l : List Vn} (h : Asc l) (t : Int) : ∀ a ∈ l.take (cnt l t), a.c ≤ t := fun a ha => by
  obtain ⟨i, hi⟩ := List.getElem?_of_mem ha
  rw [List.getElem?_take] at hi
  split at hi
  · rename_i hlt
    exact (h.cnt_iff t hi).1 hlt
  · cases hi
theorem Asc.drop_cnt {l : List Vn} (h : Asc l) (t : Int) : ∀ a ∈ l.drop (cnt l t), t < a.c := fun a ha => by
  obtain ⟨i, hi⟩ := List.getElem?_of_mem ha
  rw [List.getElem?_drop] at hi
  have := mt (h.cnt_iff t hi).2
  omega
/-- Which is seen at the time; which is the first behind it. -/
def atM (l : List Vn) (t : Int) : Option Vn := if cnt l t = 0 then none else l[cnt l t - 1]?
def afM (l : List Vn) (t : Int) : Option Vn := l[cnt l t]?
theorem Asc.at_spec {l : List Vn} (h : Asc l) {t : Int} {s : Vn} (hs : s ∈ l) (hc : s.c ≤ t) (hm : ∀ y ∈ l, y.c ≤ t → gt y s = false) : atM l t = some s := by
  obtain ⟨i, hi⟩ := List.getElem?_of_mem hs
  have hlt := (h.cnt_iff t hi).2 hc
  unfold atM
  rw [if_neg (by omega)]
  have hb : cnt l t - 1 < l.length := by have := cnt_le l t; omega
  rw [List.getElem?_eq_getElem hb]
  have hc2 := (h.cnt_iff t (List.getElem?_eq_getElem hb)).1 (by omega)
  have hg := hm _ (List.getElem_mem hb) hc2
  rcases Nat.lt_or_eq_of_le (show i ≤ cnt l t - 1 by omega) with h1 | h1
  · obtain ⟨h2, rfl⟩ := List.getElem?_eq_some_iff.1 hi
    have := List.pairwise_iff_getElem.1 h i _ h2 hb h1
    rw [this] at hg; cases hg
  · subst h1
    rw [List.getElem?_eq_getElem hb] at hi
    exact hi
theorem Asc.at_none {l : List Vn} {t : Int} (hm : ∀ y ∈ l, ¬ y.c ≤ t) : atM l t = none := by
  unfold atM
  rw [if_pos]
  unfold cnt
  rw [List.countP_eq_zero]
  intro y hy
  simp only [decide_eq_true_eq]
  exact hm y hy
theorem Asc.at_mem {l : List Vn} (h : Asc l) {t : Int} {s : Vn} (hs : atM l t = some s) : s ∈ l ∧ s.c ≤ t ∧ ∀ y ∈ l, y.c ≤ t → gt y s = false := by
  unfold atM at hs
  split at hs
  · cases hs
  · rename_i h0
    refine ⟨List.mem_of_getElem? hs, (h.cnt_iff t hs).1 (by omega), fun y hy hyc => ?_⟩
    obtain ⟨j, hj⟩ := List.getElem?_of_mem hy
    have := (h.cnt_iff t hj).2 hyc
    rcases Nat.lt_or_eq_of_le (show j ≤ cnt l t - 1 by omega) with h1 | h1
    · obtain ⟨h2, rfl⟩ := List.getElem?_eq_some_iff.1 hj
      obtain ⟨h3, rfl⟩ := List.getElem?_eq_some_iff.1 hs
      exact gt_asym (List.pairwise_iff_getElem.1 h j _ h2 h3 h1)
    · subst h1
      rw [hs] at hj
      cases hj
      exact gt_irrefl _
theorem Asc.af_spec {l : List Vn} (h : Asc l) {t : Int} {s : Vn} (hs : s ∈ l) (hc : t < s.c) (hm : ∀ y ∈ l, t < y.c → gt s y = false) : afM l t = some s := by
  obtain ⟨i, hi⟩ := List.getElem?_of_mem hs
  have hge : ¬ i < cnt l t := fun h' => by have := (h.cnt_iff t hi).1 h'; omega
  have hil := (List.getElem?_eq_some_iff.1 hi).1
  have hb : cnt l t < l.length := by omega
  unfold afM
  rw [List.getElem?_eq_getElem hb]
  have hc2 : t < l[cnt l t].c := by
    have := mt (h.cnt_iff t (List.getElem?_eq_getElem hb)).2
    omega
  have hg := hm _ (List.getElem_mem hb) hc2
  rcases Nat.lt_or_eq_of_le (show cnt l t ≤ i by omega) with h1 | h1
  · obtain ⟨h2, rfl⟩ := List.getElem?_eq_some_iff.1 hi
    have := List.pairwise_iff_getElem.1 h _ i hb h2 h1
    rw [this] at hg; cases hg
  · subst h1
    rw [List.getElem?_eq_getElem hb] at hi
    exact hi
theorem af_none {l : List Vn} {t : Int} (hm : ∀ y ∈ l, ¬ t < y.c) : afM l t = none := by
  unfold afM
  have : cnt l t = l.length := by
    unfold cnt
    rw [List.countP_eq_length]
    intro y hy
    have := hm y hy
    simp; omega
  rw [this]
  simp

/-- What Prune keeps of a chain. -/
def keepV (l : List Vn) (t : Int) (x : Vn) : Bool := match atM l t with
  | some s => !gt s x
  | none => true
def prn (A : List En) (t : Int) : List En := A.filter fun e => keepV (ch A e.key) t e.x
/-- .. with some keys still to come. -/
def prL (A : List En) (left : ByteArray → Bool) (t : Int) : List En := A.filter fun e => left e.key || keepV (ch A e.key) t e.x
theorem filter_ch (A : List En) (q : En → Bool) (k : ByteArray) (p : Vn → Bool) (h : ∀ e ∈ A, e.key.toList = k.toList → q e = p e.x) : ch (A.filter q) k = (ch A k).filter p := by
  induction A with
  | nil => rfl
  | cons a r ih =>
    have ihr := ih fun e he => h e (List.mem_cons_of_mem _ he)
    have e1 : ∀ (B : List En), ch (a :: B) k = ch [a] k ++ ch B k := fun B => ch_append [a] B k
    rw [e1 r, List.filter_append, ← ihr]
    by_cases hk : a.key.toList = k.toList
    · have hq := h a (by simp) hk
      have e2 : ch [a] k = [a.x] := ch_one_same hk a.x
      rw [e2]
      cases hp : p a.x
      · rw [List.filter_cons, hq, hp]
        simp [hp]
      · rw [List.filter_cons, hq, hp]
        simp only [if_true]
        rw [e1, e2]
        simp [hp]
    · have e2 : ch [a] k = [] := ch_one_other hk a.x
      rw [e2, List.filter_nil, List.nil_append, List.filter_cons]
      split
      · rw [e1, e2, List.nil_append]
      · rfl
theorem Asc.keep_drop {l : List Vn} (h : Asc l) (t : Int) : l.filter (keepV l t) = l.drop (cnt l t - 1) := by
  cases e : atM l t with
  | none =>
    have h0 : cnt l t = 0 := by
      unfold atM at e
      split at e
      · assumption
      · have := cnt_le l t
        rw [List.getElem?_eq_getElem (by omega)] at e
        cases e
    have hk : ∀ x, keepV l t x = true := fun x => by unfold keepV; rw [e]
    rw [h0, List.filter_eq_self.2 fun a _ => hk a]
    rfl
  | some s =>
    have hk : ∀ x, keepV l t x = !gt s x := fun x => by unfold keepV; rw [e]
    unfold atM at e
    split at e
    · cases e
    · rename_i h0
      obtain ⟨m, hm⟩ : ∃ m, m = cnt l t - 1 := ⟨_, rfl⟩
      rw [← hm] at e ⊢
      obtain ⟨hb, hs⟩ := List.getElem?_eq_some_iff.1 e
      have hta : l.filter (keepV l t) = (l.take m).filter (keepV l t) ++ (l.drop m).filter (keepV l t) := by
        rw [← List.filter_append, List.take_append_drop]
      rw [hta]
      have hd : l.drop m = l[m] :: l.drop (m + 1) := List.drop_eq_getElem_cons hb
      have h1 : (l.take m).filter (keepV l t) = [] := by
        rw [List.filter_eq_nil_iff]
        intro a ha
        obtain ⟨i, hi⟩ := List.getElem?_of_mem ha
        rw [List.getElem?_take] at hi
        split at hi
        · rename_i hlt
          obtain ⟨h2, rfl⟩ := List.getElem?_eq_some_iff.1 hi
          have := List.pairwise_iff_getElem.1 h i m h2 hb hlt
          rw [hs] at this
          rw [hk, this]
          simp
        · cases hi
      have h2 : (l.drop m).filter (keepV l t) = l.drop m := by
        refine List.filter_eq_self.2 fun a ha => ?_
        rw [hk]
        have : gt s a = false := by
          rw [hd] at ha
          rcases List.mem_cons.1 ha with rfl | ha
          · rw [hs]; exact gt_irrefl _
          · obtain ⟨i, hi⟩ := List.getElem?_of_mem ha
            rw [List.getElem?_drop] at hi
            obtain ⟨h3, rfl⟩ := List.getElem?_eq_some_iff.1 hi
            have := List.pairwise_iff_getElem.1 h m _ hb h3 (by omega)
            rw [hs] at this
            exact gt_asym this
        simp [this]
      rw [h1, h2, List.nil_append]
theorem Asc.drop {l : List Vn} (h : Asc l) (m : Nat) : Asc (l.drop m) := List.Pairwise.sublist (List.drop_sublist m l) h
theorem Good.prL_ch {A : List En} (h : Good A) {left : ByteArray → Bool} (hl : ∀ k k', k.toList = k'.toList → left k = left k') (t : Int) (k : ByteArray) : ch (prL A left t) k = if left k then ch A k else (ch A k).drop (cnt (ch A k) t - 1) := by
  unfold prL
  cases e : left k
  · rw [filter_ch A _ k (keepV (ch A k) t) (fun a _ ha => by rw [hl _ _ ha, e, ch_congr ha]; rfl)]
    simp only [Bool.false_eq_true, if_false]
    exact (h k).keep_drop t
  · rw [filter_ch A _ k (fun _ => true) (fun a _ ha => by rw [hl _ _ ha, e]; rfl)]
    simp
theorem prn_prL (A : List En) (t : Int) : prn A t = prL A (fun _ => false) t := by simp [prn, prL]
theorem prL_all (A : List En) (t : Int) : prL A (fun _ => true) t = A := by simp [prL]
theorem Good.prn_ch {A : List En} (h : Good A) (t : Int) (k : ByteArray) : ch (prn A t) k = (ch A k).drop (cnt (ch A k) t - 1) := by
  rw [prn_prL, h.prL_ch (fun _ _ _ => rfl)]
  simp
theorem Good.prn {A : List En} (h : Good A) (t : Int) : Good (prn A t) := fun k => by
  rw [h.prn_ch]
  exact (h k).drop _
theorem prn_length (A : List En) (t : Int) : (prn A t).length ≤ A.length := List.length_filter_le _ _
theorem prL_length (A : List En) (left : ByteArray → Bool) (t : Int) : (prL A left t).length ≤ A.length := List.length_filter_le _ _

/-- The keys, rising, each once. -/
def KeysOf (A : List En) (l : List (List UInt8)) : Prop := l.Pairwise (· < ·) ∧ ∀ x, x ∈ l ↔ ∃ e ∈ A, e.key.toList = x
theorem KeysOf.unique {A : List En} {l l' : List (List UInt8)} (h : KeysOf A l) (h' : KeysOf A l') : l = l' := by
  refine List.Perm.eq_of_pairwise (le := fun a b => a < b) (fun a b _ _ h1 h2 => absurd h2 (List.lt_asymm h1)) h.1 h'.1 ?_
  have nd : ∀ {l : List (List UInt8)}, l.Pairwise (· < ·) → l.Nodup := fun hp => List.Pairwise.imp (fun {a b} hab (e : a = b) => List.lt_irrefl a (by rw [← e] at hab; exact hab)) hp
  exact (List.perm_ext_iff_of_nodup (nd h.1) (nd h'.1)).2 fun x => (h.2 x).trans (h'.2 x).symm
end Go.Proofs.Ytbjmdpfoeeadeaa.Ch
