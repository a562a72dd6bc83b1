/- What is proved: plain facts on a tournament of sources: what its nodes hold while sources come in and win, and that the one at the root is beaten by none; no condition. -/
import Derived.Test.YtolaeiagfnhllaaNSort
namespace Go.Proofs.Ytolaeiagfnhllaa

/-- A source: it waits, holds a row, or is finished. -/
inductive Sr where
  | wait
  | fed (r : RwM)
  | fin
def Sr.code : Sr → Int
  | .wait => 0
  | .fed _ => 1
  | .fin => 2
def Sr.row : Sr → RwM
  | .fed r => r
  | _ => r0
def Sr.wt : Sr → Bool
  | .wait => true
  | _ => false
theorem Sr.wt_code (s : Sr) : s.wt = decide (s.code = 0) := by cases s <;> rfl
theorem Sr.code_zero {s : Sr} : s.code = 0 ↔ s.wt = true := by cases s <;> simp [Sr.code, Sr.wt]
/-- Source a wins against source b: it holds a row, and b none, or one behind it. -/
def bt (order : Int) (S : List Sr) (a b : Nat) : Bool :=
  match S.getD a .wait, S.getD b .wait with
  | .fed x, .fed y => bef order x y || (!bef order y x && decide (a < b))
  | .fed _, _ => true
  | _, _ => false
theorem bt_swo (order : Int) (S : List Sr) : SWO (bt order S) := by
  have h := bef_swo order
  constructor
  · intro a b hab
    unfold bt at *
    cases ha : S.getD a .wait <;> cases hb : S.getD b .wait <;> simp only [ha, hb] at * <;> try (first | rfl | cases hab; done)
    simp only [Bool.or_eq_true, Bool.and_eq_true, Bool.not_eq_true', decide_eq_true_eq, Bool.or_eq_false_iff, Bool.and_eq_false_iff, Bool.not_eq_false', decide_eq_false_iff_not] at *
    rcases hab with h1 | ⟨h1, h2⟩
    · exact ⟨h.asym h1, .inl h1⟩
    · exact ⟨h1, .inr (by omega)⟩
  · intro a b c hab hbc
    unfold bt at *
    cases ha : S.getD a .wait <;> cases hb : S.getD b .wait <;> cases hc : S.getD c .wait <;> simp only [ha, hb, hc] at * <;> try (first | rfl | cases hab; done | cases hbc; done)
    rename_i x y z
    simp only [Bool.or_eq_false_iff, Bool.and_eq_false_iff, Bool.not_eq_false', decide_eq_false_iff_not] at *
    obtain ⟨a1, a2⟩ := hab
    obtain ⟨b1, b2⟩ := hbc
    refine ⟨h.ntr a1 b1, ?_⟩
    cases hca : bef order z x
    · refine .inr ?_
      rcases a2 with a2 | a2
      · have := h.ntr b1 hca
        rw [a2] at this; cases this
      · rcases b2 with b2 | b2
        · have := h.ntr hca a1
          rw [b2] at this; cases this
        · omega
    · exact .inl rfl
theorem getD_set_ne' {α : Type} {L : List α} {i j : Nat} {x d : α} (h : i ≠ j) : (L.set i x).getD j d = L.getD j d := by
  simp [List.getD, List.getElem?_set_ne h]
theorem getD_set_eq' {α : Type} {L : List α} {i : Nat} {x d : α} (h : i < L.length) : (L.set i x).getD i d = x := by
  simp [List.getD, List.getElem?_set_self h]
theorem bt_set {order : Int} {S : List Sr} {i a b : Nat} {s : Sr} (ha : i ≠ a) (hb : i ≠ b) : bt order (S.set i s) a b = bt order S a b := by
  unfold bt
  rw [getD_set_ne' ha, getD_set_ne' hb]
/-- What a node holds, by the winners of its two halves. -/
def NodeOk (order : Int) (S : List Sr) (x : Int) (o : Option Nat) : Option Nat → Option Nat → Prop
  | none, none => x = -1 ∧ o = none
  | some p, none => x = (p : Int) ∧ o = none
  | none, some q => x = (q : Int) ∧ o = none
  | some p, some q => (x = (q : Int) ∧ o = some p ∧ bt order S q p = false) ∨ (x = (p : Int) ∧ o = some q ∧ bt order S p q = false)
/-- The nodes nd of a tournament of the sources S; win n: who has won all matches below node n. -/
structure Trn (order : Int) (S : List Sr) (nd : List Int) (win : Nat → Option Nat) : Prop where
  len : nd.length = S.length
  leaf : ∀ i, i < S.length → win (S.length + i) = if (S.getD i .wait).wt = true then none else some i
  node : ∀ n, 0 < n → n < S.length → NodeOk order S (nd.getD n 0) (win n) (win (2 * n)) (win (2 * n + 1))
  root : ∀ x, win 1 = some x → nd.getD 0 0 = (x : Int)
/-- The winner of a node won below it. -/
def Dn2 (k : Nat) (win : Nat → Option Nat) : Prop := ∀ n, 0 < n → n < k → ∀ x, win n = some x → win (2 * n) = some x ∨ win (2 * n + 1) = some x
theorem NodeOk.dn {order : Int} {S : List Sr} {y : Int} {o a b : Option Nat} (h : NodeOk order S y o a b) {x : Nat} (hx : o = some x) : a = some x ∨ b = some x := by
  subst hx
  cases a <;> cases b <;> simp only [NodeOk, reduceCtorEq, and_false] at h
  rename_i p q
  rcases h with ⟨-, h, -⟩ | ⟨-, h, -⟩
  · exact .inl h.symm
  · exact .inr h.symm
theorem Trn.dn {order : Int} {S : List Sr} {nd : List Int} {win : Nat → Option Nat} (h : Trn order S nd win) : Dn2 S.length win := fun n h0 h1 _ hx => (h.node n h0 h1).dn hx
/-- Node n lies on the way up from m. -/
def Anc (n m : Nat) : Prop := ∃ d, m / 2 ^ d = n
theorem Anc.half {n m : Nat} (h : Anc n m) : Anc (n / 2) m := by
  obtain ⟨d, rfl⟩ := h
  exact ⟨d + 1, by rw [Nat.pow_succ, ← Nat.div_div_eq_div_mul]⟩
theorem Anc.le {n m : Nat} (h : Anc n m) : n ≤ m := by
  obtain ⟨d, rfl⟩ := h
  exact Nat.div_le_self _ _
theorem Anc.one {n m : Nat} (h0 : 0 < n) (h1 : Anc (2 * n) m) (h2 : Anc (2 * n + 1) m) : False := by
  obtain ⟨d, hd⟩ := h1
  obtain ⟨e, he⟩ := h2
  rcases Nat.lt_trichotomy d e with h | rfl | h
  · obtain ⟨f, rfl⟩ : ∃ f, e = d + (f + 1) := ⟨e - d - 1, by omega⟩
    rw [Nat.pow_add, ← Nat.div_div_eq_div_mul, hd, Nat.pow_succ, Nat.mul_comm (2 ^ f), ← Nat.div_div_eq_div_mul, Nat.mul_div_cancel_left _ (by decide)] at he
    have := Nat.div_le_self n (2 ^ f)
    omega
  · omega
  · obtain ⟨f, rfl⟩ : ∃ f, d = e + (f + 1) := ⟨d - e - 1, by omega⟩
    rw [Nat.pow_add, ← Nat.div_div_eq_div_mul, he, Nat.pow_succ, Nat.mul_comm (2 ^ f), ← Nat.div_div_eq_div_mul, show (2 * n + 1) / 2 = n by omega] at hd
    have := Nat.div_le_self n (2 ^ f)
    omega
theorem under {S : List Sr} {win : Nat → Option Nat} (hd : Dn2 S.length win) (hl : ∀ i, i < S.length → win (S.length + i) = if (S.getD i .wait).wt = true then none else some i) :
    ∀ (f n : Nat), 2 * S.length ≤ n + f → 0 < n → n < 2 * S.length → ∀ x, win n = some x → x < S.length ∧ (S.getD x .wait).wt = false ∧ Anc n (S.length + x) := by
  intro f
  induction f with
  | zero => intro n h1 h2 h3; omega
  | succ f ih =>
    intro n h1 h0 h2 x hx
    by_cases hn : n < S.length
    · rcases hd n h0 hn x hx with h | h
      · obtain ⟨a, b, c⟩ := ih (2 * n) (by omega) (by omega) (by omega) x h
        refine ⟨a, b, ?_⟩
        have := c.half
        rwa [Nat.mul_div_cancel_left _ (by decide)] at this
      · obtain ⟨a, b, c⟩ := ih (2 * n + 1) (by omega) (by omega) (by omega) x h
        refine ⟨a, b, ?_⟩
        have := c.half
        rwa [show (2 * n + 1) / 2 = n by omega] at this
    · obtain ⟨i, rfl⟩ : ∃ i, n = S.length + i := ⟨n - S.length, by omega⟩
      have := hl i (by omega)
      rw [hx] at this
      cases hw : (S.getD i .wait).wt
      · rw [hw, if_neg (by decide)] at this
        cases this
        exact ⟨by omega, hw, 0, by simp⟩
      · rw [hw, if_pos rfl] at this
        cases this
theorem Trn.und {order : Int} {S : List Sr} {nd : List Int} {win : Nat → Option Nat} (h : Trn order S nd win) {n x : Nat} (h0 : 0 < n) (h1 : n < 2 * S.length) (hx : win n = some x) : x < S.length ∧ (S.getD x .wait).wt = false ∧ Anc n (S.length + x) :=
  under h.dn h.leaf (2 * S.length) n (by omega) h0 h1 x hx
theorem NodeOk.up {order : Int} {S : List Sr} {y : Int} {o a b : Option Nat} (h : NodeOk order S y o a b) (hx : a = none ∨ b = none) : o = none := by
  rcases hx with rfl | rfl
  · cases b <;> exact h.2
  · cases a <;> exact h.2
theorem Trn.up {order : Int} {S : List Sr} {nd : List Int} {win : Nat → Option Nat} (h : Trn order S nd win) {n : Nat} (h0 : 1 < n) (h1 : n < 2 * S.length) (hn : win n = none) : win (n / 2) = none := by
  refine (h.node (n / 2) (by omega) (by omega)).up ?_
  rcases Nat.mod_two_eq_zero_or_one n with e | e
  · rw [show 2 * (n / 2) = n by omega]; exact .inl hn
  · rw [show 2 * (n / 2) + 1 = n by omega]; exact .inr hn
theorem Trn.top {order : Int} {S : List Sr} {nd : List Int} {win : Nat → Option Nat} (h : Trn order S nd win) : ∀ (f n : Nat), n ≤ f → 0 < n → n < 2 * S.length → win n = none → win 1 = none := by
  intro f
  induction f with
  | zero => intro n h1 h2; omega
  | succ f ih =>
    intro n h1 h0 h2 hn
    by_cases e : n = 1
    · subst e; exact hn
    · exact ih (n / 2) (by omega) (by omega) (by omega) (h.up (by omega) h2 hn)
theorem NodeOk.both {order : Int} {S : List Sr} {y : Int} {o : Option Nat} {p q : Nat} (h : NodeOk order S y o (some p) (some q)) : ∃ x, o = some x := by
  rcases h with ⟨-, h, -⟩ | ⟨-, h, -⟩
  · exact ⟨_, h⟩
  · exact ⟨_, h⟩
theorem Trn.full {order : Int} {S : List Sr} {nd : List Int} {win : Nat → Option Nat} (h : Trn order S nd win) (hw : ∀ i, i < S.length → (S.getD i .wait).wt = false) :
    ∀ (f n : Nat), 2 * S.length ≤ n + f → 0 < n → n < 2 * S.length → ∃ x, win n = some x := by
  intro f
  induction f with
  | zero => intro n h1 h2 h3; omega
  | succ f ih =>
    intro n h1 h0 h2
    by_cases hn : n < S.length
    · obtain ⟨p, hp⟩ := ih (2 * n) (by omega) (by omega) (by omega)
      obtain ⟨q, hq⟩ := ih (2 * n + 1) (by omega) (by omega) (by omega)
      have := h.node n h0 hn
      rw [hp, hq] at this
      exact this.both
    · obtain ⟨i, rfl⟩ : ∃ i, n = S.length + i := ⟨n - S.length, by omega⟩
      rw [h.leaf i (by omega), hw i (by omega)]
      exact ⟨i, rfl⟩
theorem NodeOk.le {order : Int} {S : List Sr} {y : Int} {x : Nat} {a b : Option Nat} (h : NodeOk order S y (some x) a b) {z : Nat} (hz : a = some z ∨ b = some z) : bt order S z x = false := by
  cases a <;> cases b <;> simp only [NodeOk, reduceCtorEq, and_false, Option.some.injEq] at h hz
  rename_i p q
  rcases h with ⟨-, rfl, h⟩ | ⟨-, rfl, h⟩ <;> rcases hz with rfl | rfl
  · exact (bt_swo _ _).irr _
  · exact h
  · exact h
  · exact (bt_swo _ _).irr _
/-- None beats the one at the root. -/
theorem Trn.least {order : Int} {S : List Sr} {nd : List Int} {win : Nat → Option Nat} (h : Trn order S nd win) (hw : ∀ i, i < S.length → (S.getD i .wait).wt = false) {x : Nat} (hx : win 1 = some x) :
    ∀ (f n : Nat), n ≤ f → 0 < n → n < 2 * S.length → ∀ z, win n = some z → bt order S z x = false := by
  intro f
  induction f with
  | zero => intro n h1 h2; omega
  | succ f ih =>
    intro n h1 h0 h2 z hz
    by_cases e : n = 1
    · subst e
      rw [hx] at hz
      cases hz
      exact (bt_swo _ _).irr _
    · obtain ⟨y, hy⟩ := h.full hw (2 * S.length) (n / 2) (by omega) (by omega) (by omega)
      have h3 := ih (n / 2) (by omega) (by omega) (by omega) y hy
      have h4 := h.node (n / 2) (by omega) (by omega)
      rw [hy] at h4
      refine (bt_swo _ _).ntr (h4.le ?_) h3
      rcases Nat.mod_two_eq_zero_or_one n with e | e
      · rw [show 2 * (n / 2) = n by omega]; exact .inl hz
      · rw [show 2 * (n / 2) + 1 = n by omega]; exact .inr hz
/-- With none waiting: the root holds a source that none beats. -/
theorem Trn.win {order : Int} {S : List Sr} {nd : List Int} {win : Nat → Option Nat} (h : Trn order S nd win) (h0 : 0 < S.length) (hw : ∀ i, i < S.length → (S.getD i .wait).wt = false) :
    ∃ x, win 1 = some x ∧ nd.getD 0 0 = (x : Int) ∧ x < S.length ∧ ∀ i, i < S.length → bt order S i x = false := by
  obtain ⟨x, hx⟩ := h.full hw (2 * S.length) 1 (by omega) (by omega) (by omega)
  refine ⟨x, hx, h.root x hx, (h.und (by omega) (by omega) hx).1, fun i hi => ?_⟩
  refine h.least hw hx (S.length + i) (S.length + i) (by omega) (by omega) (by omega) i ?_
  rw [h.leaf i hi, hw i hi]
  rfl
theorem Trn.path {order : Int} {S : List Sr} {nd : List Int} {win : Nat → Option Nat} (h : Trn order S nd win) {x : Nat} (hx : win 1 = some x) (hxl : x < S.length) :
    ∀ (f m : Nat), m ≤ f → 0 < m → Anc m (S.length + x) → win m = some x := by
  intro f
  induction f with
  | zero => intro n h1 h2; omega
  | succ f ih =>
    intro m h1 h0 ha
    by_cases e : m = 1
    · subst e; exact hx
    · have hm := ha.le
      have h3 := ih (m / 2) (by omega) (by omega) ha.half
      rcases h.dn (m / 2) (by omega) (by omega) x h3 with h4 | h4
      · have h5 := (h.und (n := 2 * (m / 2)) (by omega) (by omega) h4).2.2
        rcases Nat.mod_two_eq_zero_or_one m with e | e
        · rw [show 2 * (m / 2) = m by omega] at h4; exact h4
        · exact (Anc.one (n := m / 2) (by omega) h5 (by rw [show 2 * (m / 2) + 1 = m by omega]; exact ha)).elim
      · have h5 := (h.und (n := 2 * (m / 2) + 1) (by omega) (by omega) h4).2.2
        rcases Nat.mod_two_eq_zero_or_one m with e | e
        · exact (Anc.one (n := m / 2) (by omega) (by rw [show 2 * (m / 2) = m by omega]; exact ha) h5).elim
        · rw [show 2 * (m / 2) + 1 = m by omega] at h4; exact h4
/-- The one at the root is taken out: it waits. -/
theorem Trn.take {order : Int} {S : List Sr} {nd : List Int} {win : Nat → Option Nat} (h : Trn order S nd win) (h0 : 0 < S.length) (hw : ∀ i, i < S.length → (S.getD i .wait).wt = false) {x : Nat} (hx : win 1 = some x) :
    Trn order (S.set x .wait) nd fun n => if win n = some x then none else win n := by
  obtain ⟨hxl, -, -⟩ := h.und (by omega) (by omega) hx
  refine ⟨by rw [List.length_set]; exact h.len, fun i hi => ?_, fun n n0 n1 => ?_, fun y hy => ?_⟩
  · rw [List.length_set] at hi ⊢
    rw [h.leaf i hi, hw i hi]
    by_cases e : x = i
    · subst e
      rw [getD_set_eq' hi]
      simp [Sr.wt]
    · rw [getD_set_ne' e, hw i hi]
      simp [Ne.symm e]
  · rw [List.length_set] at n1
    obtain ⟨p, hp⟩ := h.full hw (2 * S.length) (2 * n) (by omega) (by omega) (by omega)
    obtain ⟨q, hq⟩ := h.full hw (2 * S.length) (2 * n + 1) (by omega) (by omega) (by omega)
    have hn := h.node n n0 n1
    have up := h.und (n := 2 * n) (by omega) (by omega) hp
    have uq := h.und (n := 2 * n + 1) (by omega) (by omega) hq
    have hpq : p ≠ q := by
      rintro rfl
      exact Anc.one n0 up.2.2 uq.2.2
    rw [hp, hq] at hn
    simp only [hp, hq, Option.some.injEq]
    by_cases e1 : p = x
    · subst e1
      have hw1 := h.path hx hxl n n (Nat.le_refl _) n0 (by have := up.2.2.half; rwa [Nat.mul_div_cancel_left _ (by decide)] at this)
      rw [hw1] at hn ⊢
      rw [if_pos rfl, if_neg (Ne.symm hpq), if_pos rfl]
      rcases hn with ⟨h1, h2, h3⟩ | ⟨h1, h2, h3⟩
      · exact ⟨h1, rfl⟩
      · cases h2; exact (hpq rfl).elim
    · by_cases e2 : q = x
      · subst e2
        have hw1 := h.path hx hxl n n (Nat.le_refl _) n0 (by have := uq.2.2.half; rwa [show (2 * n + 1) / 2 = n by omega] at this)
        rw [hw1] at hn ⊢
        rw [if_pos rfl, if_neg hpq, if_pos rfl]
        rcases hn with ⟨h1, h2, h3⟩ | ⟨h1, h2, h3⟩
        · cases h2; exact (hpq rfl).elim
        · exact ⟨h1, rfl⟩
      · rw [if_neg e1, if_neg e2]
        have e3 : win n ≠ some x := fun e => by
          rcases h.dn n n0 n1 x e with e | e
          · rw [hp] at e; cases e; exact e1 rfl
          · rw [hq] at e; cases e; exact e2 rfl
        rw [if_neg e3]
        rcases hn with ⟨h1, h2, h3⟩ | ⟨h1, h2, h3⟩
        · exact .inl ⟨h1, h2, by rw [bt_set (Ne.symm e2) (Ne.symm e1)]; exact h3⟩
        · exact .inr ⟨h1, h2, by rw [bt_set (Ne.symm e1) (Ne.symm e2)]; exact h3⟩
  · simp only [hx, if_true] at hy
    cases hy
/-- The other half of the node above. -/
def sib (c : Nat) : Nat := if c % 2 = 0 then c + 1 else c - 1
/-- Source x has won all matches below node c and stands ahead of the next. -/
structure Pend (order : Int) (S : List Sr) (nd : List Int) (win : Nat → Option Nat) (c x : Nat) : Prop where
  len : nd.length = S.length
  leaf : ∀ i, i < S.length → win (S.length + i) = if (S.getD i .wait).wt = true then none else some i
  c0 : 0 < c
  c1 : c < 2 * S.length
  cw : win c = some x
  node : ∀ n, 0 < n → n < S.length → n ≠ c / 2 → NodeOk order S (nd.getD n 0) (win n) (win (2 * n)) (win (2 * n + 1))
  half : 0 < c / 2 → win (c / 2) = none ∧ nd.getD (c / 2) 0 = (match win (sib c) with | none => -1 | some y => (y : Int))
  top : c ≠ 1 → win 1 = none
theorem Pend.dn {order : Int} {S : List Sr} {nd : List Int} {win : Nat → Option Nat} {c x : Nat} (h : Pend order S nd win c x) : Dn2 S.length win := fun n h0 h1 y hy => by
  by_cases e : n = c / 2
  · subst e
    rw [(h.half h0).1] at hy
    cases hy
  · exact (h.node n h0 h1 e).dn hy
theorem Pend.und {order : Int} {S : List Sr} {nd : List Int} {win : Nat → Option Nat} {c x : Nat} (h : Pend order S nd win c x) {n y : Nat} (h0 : 0 < n) (h1 : n < 2 * S.length) (hx : win n = some y) : y < S.length ∧ (S.getD y .wait).wt = false :=
  let r := under h.dn h.leaf (2 * S.length) n (by omega) h0 h1 y hx
  ⟨r.1, r.2.1⟩
/-- win, but for node c. -/
def upd (win : Nat → Option Nat) (c x : Nat) : Nat → Option Nat := fun n => if n = c then some x else win n
theorem upd_at (win : Nat → Option Nat) (c x : Nat) : upd win c x c = some x := if_pos rfl
theorem upd_ne {win : Nat → Option Nat} {c x n : Nat} (h : n ≠ c) : upd win c x n = win n := if_neg h
theorem Trn.enter {order : Int} {S : List Sr} {nd : List Int} {win : Nat → Option Nat} (h : Trn order S nd win) {i : Nat} (hi : i < S.length) (hw : (S.getD i .wait).wt = true) {s : Sr} (hs : s.wt = false) :
    Pend order (S.set i s) nd (upd win (S.length + i) i) (S.length + i) i := by
  have hl := h.leaf i hi
  rw [hw, if_pos rfl] at hl
  have hne : ∀ n y, 0 < n → n < 2 * S.length → win n = some y → i ≠ y := by
    rintro n y n0 n1 hy rfl
    have := (h.und n0 n1 hy).2.1
    rw [hw] at this
    cases this
  refine ⟨by rw [List.length_set]; exact h.len, fun j hj => ?_, by omega, by rw [List.length_set]; omega, upd_at _ _ _, fun n n0 n1 n2 => ?_, fun h0 => ?_, fun h1 => ?_⟩
  · rw [List.length_set] at hj ⊢
    by_cases e : i = j
    · subst e
      rw [upd_at, getD_set_eq' hi, hs]
      rfl
    · rw [upd_ne (by omega), getD_set_ne' e]
      exact h.leaf j hj
  · rw [List.length_set] at n1
    rw [upd_ne (by omega), upd_ne (by omega), upd_ne (by omega)]
    have hn := h.node n n0 n1
    cases hp : win (2 * n) with
    | none => rw [hp] at hn; cases hq : win (2 * n + 1) <;> (rw [hq] at hn; exact hn)
    | some p =>
      cases hq : win (2 * n + 1) with
      | none => rw [hp, hq] at hn; exact hn
      | some q =>
        rw [hp, hq] at hn
        have e1 := hne (2 * n) p (by omega) (by omega) hp
        have e2 := hne (2 * n + 1) q (by omega) (by omega) hq
        rcases hn with ⟨h1, h2, h3⟩ | ⟨h1, h2, h3⟩
        · exact .inl ⟨h1, h2, by rw [bt_set e2 e1]; exact h3⟩
        · exact .inr ⟨h1, h2, by rw [bt_set e1 e2]; exact h3⟩
  · have h2 := h.up (n := S.length + i) (by omega) (by omega) hl
    have hn := h.node ((S.length + i) / 2) h0 (by omega)
    rw [upd_ne (by omega)]
    refine ⟨h2, ?_⟩
    unfold sib
    rcases Nat.mod_two_eq_zero_or_one (S.length + i) with e | e
    · rw [if_pos e, upd_ne (by omega)]
      rw [show 2 * ((S.length + i) / 2) = S.length + i by omega, hl] at hn
      cases hq : win (S.length + i + 1) <;> (rw [hq] at hn; exact hn.1)
    · rw [if_neg (by omega), upd_ne (by omega)]
      rw [show 2 * ((S.length + i) / 2) + 1 = S.length + i by omega, show 2 * ((S.length + i) / 2) = S.length + i - 1 by omega, hl] at hn
      cases hq : win (S.length + i - 1) <;> (rw [hq] at hn; exact hn.1)
  · rw [upd_ne (by omega)]
    exact h.top (S.length + i) (S.length + i) (Nat.le_refl _) (by omega) (by omega) hl
theorem sib_ne (c : Nat) (h : 1 < c) : sib c ≠ c ∧ sib c / 2 = c / 2 ∧ (c % 2 = 0 ∧ 2 * (c / 2) = c ∧ 2 * (c / 2) + 1 = sib c ∨ c % 2 = 1 ∧ 2 * (c / 2) = sib c ∧ 2 * (c / 2) + 1 = c) := by
  unfold sib
  rcases Nat.mod_two_eq_zero_or_one c with e | e
  · rw [if_pos e]; omega
  · rw [if_neg (by omega)]; omega
/-- None has come from the other half: x stays there. -/
theorem Pend.stay {order : Int} {S : List Sr} {nd : List Int} {win : Nat → Option Nat} {c x : Nat} (h : Pend order S nd win c x) (h0 : 0 < c / 2) (hs : win (sib c) = none) : Trn order S (nd.set (c / 2) (x : Int)) win := by
  have hc := h.c1
  obtain ⟨s1, s2, s3⟩ := sib_ne c (by omega)
  refine ⟨by rw [List.length_set]; exact h.len, h.leaf, fun n n0 n1 => ?_, fun y hy => ?_⟩
  · by_cases e : n = c / 2
    · subst e
      rw [getD_set_eq' (by rw [h.len]; exact n1), (h.half h0).1]
      rcases s3 with ⟨-, e1, e2⟩ | ⟨-, e1, e2⟩
      · rw [e2, e1, h.cw, hs]; exact ⟨rfl, rfl⟩
      · rw [e2, e1, h.cw, hs]; exact ⟨rfl, rfl⟩
    · rw [getD_set_ne' (Ne.symm e)]
      exact h.node n n0 n1 e
  · rw [h.top (by omega)] at hy
    cases hy
theorem Pend.next {order : Int} {S : List Sr} {nd nd' : List Int} {win : Nat → Option Nat} {c x z : Nat} (h : Pend order S nd win c x) (h0 : 0 < c / 2) (hl : nd'.length = nd.length) (hnd : ∀ n, n ≠ c / 2 → nd'.getD n 0 = nd.getD n 0)
    (hn : NodeOk order S (nd'.getD (c / 2) 0) (some z) (win (2 * (c / 2))) (win (2 * (c / 2) + 1))) : Pend order S nd' (upd win (c / 2) z) (c / 2) z := by
  have hc := h.c1
  refine ⟨by rw [hl]; exact h.len, fun i hi => ?_, h0, by omega, upd_at _ _ _, fun n n0 n1 n2 => ?_, fun h1 => ?_, fun h1 => ?_⟩
  · rw [upd_ne (by omega)]
    exact h.leaf i hi
  · by_cases e : n = c / 2
    · subst e
      rw [upd_at, upd_ne (by omega), upd_ne (by omega)]
      exact hn
    · rw [upd_ne e, upd_ne (by omega), upd_ne (by omega), hnd n e]
      exact h.node n n0 n1 e
  · have h2 := (h.half h0).1
    have h3 := h.node (c / 2 / 2) h1 (by omega) (by omega)
    obtain ⟨s1, s2, s3⟩ := sib_ne (c / 2) (by omega)
    rw [upd_ne (by omega), upd_ne s1, hnd _ (by omega)]
    rcases s3 with ⟨-, e1, e2⟩ | ⟨-, e1, e2⟩
    · rw [e2, e1, h2] at h3
      cases hq : win (sib (c / 2)) <;> (rw [hq] at h3; exact ⟨h3.2, h3.1⟩)
    · rw [e2, e1, h2] at h3
      cases hq : win (sib (c / 2)) <;> (rw [hq] at h3; exact ⟨h3.2, h3.1⟩)
  · rw [upd_ne (Ne.symm h1)]
    exact h.top (by omega)
/-- The one from the other half is beaten or alike: x goes on. -/
theorem Pend.on {order : Int} {S : List Sr} {nd : List Int} {win : Nat → Option Nat} {c x y : Nat} (h : Pend order S nd win c x) (h0 : 0 < c / 2) (hs : win (sib c) = some y) (hb : bt order S y x = false) : Pend order S nd (upd win (c / 2) x) (c / 2) x := by
  have hh := (h.half h0).2
  rw [hs] at hh
  refine h.next h0 rfl (fun _ _ => rfl) ?_
  obtain ⟨s1, s2, s3⟩ := sib_ne c (by omega)
  rcases s3 with ⟨-, e1, e2⟩ | ⟨-, e1, e2⟩
  · rw [e2, e1, h.cw, hs]; exact .inl ⟨hh, rfl, hb⟩
  · rw [e2, e1, h.cw, hs]; exact .inr ⟨hh, rfl, hb⟩
/-- The one from the other half beats x: it goes on. -/
theorem Pend.lose {order : Int} {S : List Sr} {nd : List Int} {win : Nat → Option Nat} {c x y : Nat} (h : Pend order S nd win c x) (h0 : 0 < c / 2) (hs : win (sib c) = some y) (hb : bt order S y x = true) : Pend order S (nd.set (c / 2) (x : Int)) (upd win (c / 2) y) (c / 2) y := by
  have hc := h.c1
  refine h.next h0 (by rw [List.length_set]) (fun n hn => getD_set_ne' (Ne.symm hn)) ?_
  rw [getD_set_eq' (by rw [h.len]; omega)]
  obtain ⟨s1, s2, s3⟩ := sib_ne c (by omega)
  have hb' := (bt_swo order S).asym hb
  rcases s3 with ⟨-, e1, e2⟩ | ⟨-, e1, e2⟩
  · rw [e2, e1, h.cw, hs]; exact .inr ⟨rfl, rfl, hb'⟩
  · rw [e2, e1, h.cw, hs]; exact .inl ⟨rfl, rfl, hb'⟩
/-- x has won its last match. -/
theorem Pend.done {order : Int} {S : List Sr} {nd : List Int} {win : Nat → Option Nat} {c x : Nat} (h : Pend order S nd win c x) (h0 : c / 2 = 0) : Trn order S (nd.set 0 (x : Int)) win := by
  have hc := h.c1
  have hc0 := h.c0
  have e : c = 1 := by omega
  subst e
  refine ⟨by rw [List.length_set]; exact h.len, h.leaf, fun n n0 n1 => ?_, fun y hy => ?_⟩
  · rw [getD_set_ne' (by omega)]
    exact h.node n n0 n1 (by omega)
  · rw [h.cw] at hy
    cases hy
    exact getD_set_eq' (by rw [h.len]; omega)
/-- At first all wait. -/
theorem Trn.new (order : Int) (k : Nat) : Trn order (List.replicate k .wait) (List.replicate k (-1)) fun _ => none := by
  have e : ∀ i, (List.replicate k Sr.wait).getD i .wait = .wait := fun i => by
    rw [List.getD, List.getElem?_replicate]
    by_cases h : i < k
    · rw [if_pos h]; rfl
    · rw [if_neg h]; rfl
  refine ⟨by simp, fun i hi => by rw [e]; rfl, fun n n0 n1 => ?_, fun x hx => by cases hx⟩
  rw [List.length_replicate] at n1
  refine ⟨?_, rfl⟩
  rw [List.getD, List.getElem?_replicate, if_pos n1]
  rfl
end Go.Proofs.Ytolaeiagfnhllaa
