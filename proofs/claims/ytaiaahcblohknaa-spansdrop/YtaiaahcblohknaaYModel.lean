/- What is proved: plain facts on trees of spans: how high a balanced tree may be, what turning, putting in and taking out leave of order and balance, which spans overlap; no condition. -/
import Derived.Test.YtaiaahcblohknaaDBase
namespace Go.Proofs.Ytaiaahcblohknaa

/-- A span. -/
structure Sp where
  f : Int
  t : Int
  i : Int
deriving DecidableEq
/-- Does a stand ahead of b? -/
def sl (a b : Sp) : Bool := decide (a.f < b.f ∨ (a.f = b.f ∧ (a.t < b.t ∨ (a.t = b.t ∧ a.i < b.i))))
theorem sl_iff (a b : Sp) : sl a b = true ↔ (a.f < b.f ∨ (a.f = b.f ∧ (a.t < b.t ∨ (a.t = b.t ∧ a.i < b.i)))) := by simp [sl]
theorem sl_irrefl (a : Sp) : sl a a = false := by simp [sl]
theorem sl_trans {a b c : Sp} (h : sl a b = true) (k : sl b c = true) : sl a c = true := by rw [sl_iff] at *; omega
theorem sl_asymm {a b : Sp} (h : sl a b = true) : sl b a = false := by
  cases e : sl b a
  · rfl
  · have := sl_trans h e
    rw [sl_irrefl] at this
    cases this
theorem sl_eq {a b : Sp} (h : sl a b = false) (k : sl b a = false) : a = b := by
  have h' : ¬ (a.f < b.f ∨ (a.f = b.f ∧ (a.t < b.t ∨ (a.t = b.t ∧ a.i < b.i)))) := fun e => by rw [(sl_iff a b).2 e] at h; cases h
  have k' : ¬ (b.f < a.f ∨ (b.f = a.f ∧ (b.t < a.t ∨ (b.t = a.t ∧ b.i < a.i)))) := fun e => by rw [(sl_iff b a).2 e] at k; cases k
  obtain ⟨af, at_, ai⟩ := a
  obtain ⟨bf, bt, bi⟩ := b
  simp only [Sp.mk.injEq] at *
  omega
/-- A tree of spans. -/
inductive Tr where
  | nil : Tr
  | node : Tr → Sp → Tr → Tr
namespace Tr
def ht : Tr → Nat
  | nil => 0
  | node l _ r => max l.ht r.ht + 1
def list : Tr → List Sp
  | nil => []
  | node l s r => l.list ++ s :: r.list
def sz (t : Tr) : Nat := t.list.length
theorem sz_node (l : Tr) (s : Sp) (r : Tr) : (node l s r).sz = l.sz + r.sz + 1 := by simp [sz, list]; omega
theorem ht_node (l : Tr) (s : Sp) (r : Tr) : ((node l s r).ht = l.ht + 1 ∧ r.ht ≤ l.ht) ∨ ((node l s r).ht = r.ht + 1 ∧ l.ht ≤ r.ht) := by
  show (max l.ht r.ht + 1 = _ ∧ _) ∨ (max l.ht r.ht + 1 = _ ∧ _)
  rcases Nat.le_total l.ht r.ht with h | h
  · exact .inr ⟨by rw [Nat.max_eq_right h], h⟩
  · exact .inl ⟨by rw [Nat.max_eq_left h], h⟩
theorem ht_zero {t : Tr} (h : t.ht = 0) : t = nil := by
  cases t with
  | nil => rfl
  | node l s r => rcases ht_node l s r with ⟨e, _⟩ | ⟨e, _⟩ <;> omega
/-- Balanced. -/
def Bal : Tr → Prop
  | nil => True
  | node l _ r => l.ht ≤ r.ht + 1 ∧ r.ht ≤ l.ht + 1 ∧ l.Bal ∧ r.Bal
end Tr
/-- The least that a balanced tree of a height holds. -/
def nmin : Nat → Nat
  | 0 => 0
  | 1 => 1
  | h + 2 => nmin (h + 1) + nmin h + 1
theorem nmin_step (h : Nat) : nmin h ≤ nmin (h + 1) := by
  match h with
  | 0 => decide
  | 1 => decide
  | h + 2 =>
    show nmin (h + 1) + nmin h + 1 ≤ nmin (h + 1 + 1) + nmin (h + 1) + 1
    have := nmin_step (h + 1)
    have := nmin_step h
    omega
theorem nmin_mono {a b : Nat} (h : a ≤ b) : nmin a ≤ nmin b := by
  induction b with
  | zero => rw [Nat.le_zero.1 h]; exact Nat.le_refl _
  | succ b ih =>
    rcases Nat.lt_or_eq_of_le h with h | h
    · exact Nat.le_trans (ih (by omega)) (nmin_step b)
    · rw [h]; exact Nat.le_refl _
theorem nmin_node {a b : Nat} (h : a ≤ b + 1) (hb : b ≤ a) : nmin (a + 1) ≤ nmin a + nmin b + 1 := by
  match a with
  | 0 => have h9 : nmin (0 + 1) = 1 := rfl; omega
  | a + 1 =>
    show nmin (a + 1) + nmin a + 1 ≤ _
    have := nmin_mono (show a ≤ b by omega)
    omega
namespace Tr
/-- So much a balanced tree of its height holds .. -/
theorem Bal.least {t : Tr} (h : t.Bal) : nmin t.ht ≤ t.sz := by
  induction t with
  | nil => exact Nat.le_refl _
  | node l s r ihl ihr =>
    obtain ⟨h1, h2, hl, hr⟩ := h
    have a := ihl hl
    have b := ihr hr
    rw [sz_node]
    rcases ht_node l s r with ⟨e, k⟩ | ⟨e, k⟩
    · rw [e]
      have := nmin_node h1 k
      omega
    · rw [e]
      have := nmin_node h2 k
      omega
/-- .. and a tree at most. -/
theorem most (t : Tr) : t.sz < 2 ^ t.ht := by
  induction t with
  | nil => decide
  | node l s r ihl ihr =>
    rw [sz_node]
    rcases ht_node l s r with ⟨e, k⟩ | ⟨e, k⟩
    · rw [e, Nat.pow_succ]
      have := Nat.pow_le_pow_right (show 0 < 2 by decide) k
      omega
    · rw [e, Nat.pow_succ]
      have := Nat.pow_le_pow_right (show 0 < 2 by decide) k
      omega
def rotR : Tr → Tr
  | node (node a x b) y c => node a x (node b y c)
  | t => t
def rotL : Tr → Tr
  | node a x (node b y c) => node (node a x b) y c
  | t => t
theorem rotR_list (t : Tr) : t.rotR.list = t.list := by
  unfold rotR
  split
  · simp [list]
  · rfl
theorem rotL_list (t : Tr) : t.rotL.list = t.list := by
  unfold rotL
  split
  · simp [list]
  · rfl
def left : Tr → Tr
  | nil => nil
  | node l _ _ => l
def right : Tr → Tr
  | nil => nil
  | node _ _ r => r
/-- A tree is turned until it is balanced. -/
def fix (l : Tr) (s : Sp) (r : Tr) : Tr :=
  if r.ht + 1 < l.ht then rotR (node (if l.left.ht < l.right.ht then rotL l else l) s r)
  else if l.ht + 1 < r.ht then rotL (node l s (if r.right.ht < r.left.ht then rotR r else r))
  else node l s r
theorem fix_list (l : Tr) (s : Sp) (r : Tr) : (fix l s r).list = l.list ++ s :: r.list := by
  unfold fix
  split
  · rw [rotR_list]
    split
    · show (rotL l).list ++ s :: r.list = _
      rw [rotL_list]
    · rfl
  · split
    · rw [rotL_list]
      split
      · show l.list ++ s :: (rotR r).list = _
        rw [rotR_list]
      · rfl
    · rfl
theorem fix_none {l r : Tr} (s : Sp) (h1 : l.ht ≤ r.ht + 1) (h2 : r.ht ≤ l.ht + 1) : fix l s r = node l s r := by
  unfold fix
  rw [if_neg (by omega), if_neg (by omega)]
theorem nodeB {l r : Tr} (s : Sp) (hl : l.Bal) (hr : r.Bal) (h1 : l.ht ≤ r.ht + 1) (h2 : r.ht ≤ l.ht + 1) : (node l s r).Bal := ⟨h1, h2, hl, hr⟩
/-- The left one is too high by one. -/
theorem fix_left {l r : Tr} (s : Sp) (hl : l.Bal) (hr : r.Bal) (h : l.ht = r.ht + 2) : (fix l s r).Bal ∧ ((fix l s r).ht = l.ht ∨ (fix l s r).ht = l.ht + 1) := by
  unfold fix
  rw [if_pos (by omega)]
  match l, hl with
  | nil, _ => exact absurd h (by show 0 ≠ _; omega)
  | node a x nil, ⟨k1, k2, ba, _⟩ =>
    have e := ht_node a x nil
    have hz : (nil : Tr).ht = 0 := rfl
    rw [if_neg (show ¬ (node a x nil).left.ht < (node a x nil).right.ht from by show ¬ a.ht < 0; omega)]
    show (node a x (node nil s r)).Bal ∧ ((node a x (node nil s r)).ht = _ ∨ (node a x (node nil s r)).ht = _)
    have e2 := ht_node nil s r
    have e3 := ht_node a x (node nil s r)
    exact ⟨nodeB x ba (nodeB s trivial hr (by omega) (by omega)) (by omega) (by omega), by omega⟩
  | node a x (node b y c), ⟨k1, k2, ba, k3, k4, bb, bc⟩ =>
    have e := ht_node a x (node b y c)
    have e1 := ht_node b y c
    by_cases hlt : a.ht < (node b y c).ht
    · rw [if_pos (show (node a x (node b y c)).left.ht < (node a x (node b y c)).right.ht from hlt)]
      show (node (node a x b) y (node c s r)).Bal ∧ ((node (node a x b) y (node c s r)).ht = _ ∨ (node (node a x b) y (node c s r)).ht = _)
      have e2 := ht_node a x b
      have e3 := ht_node c s r
      have e4 := ht_node (node a x b) y (node c s r)
      exact ⟨nodeB y (nodeB x ba bb (by omega) (by omega)) (nodeB s bc hr (by omega) (by omega)) (by omega) (by omega), by omega⟩
    · rw [if_neg (show ¬ (node a x (node b y c)).left.ht < (node a x (node b y c)).right.ht from hlt)]
      show (node a x (node (node b y c) s r)).Bal ∧ ((node a x (node (node b y c) s r)).ht = _ ∨ (node a x (node (node b y c) s r)).ht = _)
      have e2 := ht_node (node b y c) s r
      have e3 := ht_node a x (node (node b y c) s r)
      exact ⟨nodeB x ba (nodeB s ⟨k3, k4, bb, bc⟩ hr (by omega) (by omega)) (by omega) (by omega), by omega⟩
/-- The right one is too high by one. -/
theorem fix_right {l r : Tr} (s : Sp) (hl : l.Bal) (hr : r.Bal) (h : r.ht = l.ht + 2) : (fix l s r).Bal ∧ ((fix l s r).ht = r.ht ∨ (fix l s r).ht = r.ht + 1) := by
  unfold fix
  rw [if_neg (by omega), if_pos (by omega)]
  match r, hr with
  | nil, _ => exact absurd h (by show 0 ≠ _; omega)
  | node nil x a, ⟨k1, k2, _, ba⟩ =>
    have e := ht_node nil x a
    have hz : (nil : Tr).ht = 0 := rfl
    rw [if_neg (show ¬ (node nil x a).right.ht < (node nil x a).left.ht from by show ¬ a.ht < 0; omega)]
    show (node (node l s nil) x a).Bal ∧ ((node (node l s nil) x a).ht = _ ∨ (node (node l s nil) x a).ht = _)
    have e2 := ht_node l s nil
    have e3 := ht_node (node l s nil) x a
    exact ⟨nodeB x (nodeB s hl trivial (by omega) (by omega)) ba (by omega) (by omega), by omega⟩
  | node (node b y c) x a, ⟨k1, k2, ⟨k3, k4, bb, bc⟩, ba⟩ =>
    have e := ht_node (node b y c) x a
    have e1 := ht_node b y c
    by_cases hlt : a.ht < (node b y c).ht
    · rw [if_pos (show (node (node b y c) x a).right.ht < (node (node b y c) x a).left.ht from hlt)]
      show (node (node l s b) y (node c x a)).Bal ∧ ((node (node l s b) y (node c x a)).ht = _ ∨ (node (node l s b) y (node c x a)).ht = _)
      have e2 := ht_node l s b
      have e3 := ht_node c x a
      have e4 := ht_node (node l s b) y (node c x a)
      exact ⟨nodeB y (nodeB s hl bb (by omega) (by omega)) (nodeB x bc ba (by omega) (by omega)) (by omega) (by omega), by omega⟩
    · rw [if_neg (show ¬ (node (node b y c) x a).right.ht < (node (node b y c) x a).left.ht from hlt)]
      show (node (node l s (node b y c)) x a).Bal ∧ ((node (node l s (node b y c)) x a).ht = _ ∨ (node (node l s (node b y c)) x a).ht = _)
      have e2 := ht_node l s (node b y c)
      have e3 := ht_node (node l s (node b y c)) x a
      exact ⟨nodeB x (nodeB s hl ⟨k3, k4, bb, bc⟩ (by omega) (by omega)) ba (by omega) (by omega), by omega⟩
/-- What fix leaves where the two differ by two at most. -/
theorem fix_bal {l r : Tr} (s : Sp) (hl : l.Bal) (hr : r.Bal) (h1 : l.ht ≤ r.ht + 2) (h2 : r.ht ≤ l.ht + 2) : (fix l s r).Bal ∧ ((fix l s r).ht = (node l s r).ht ∨ (fix l s r).ht + 1 = (node l s r).ht) ∧ (l.ht ≤ r.ht + 1 → r.ht ≤ l.ht + 1 → (fix l s r).ht = (node l s r).ht) := by
  have e := ht_node l s r
  by_cases c1 : l.ht = r.ht + 2
  · obtain ⟨a, b⟩ := fix_left s hl hr c1
    exact ⟨a, by omega, fun _ _ => by omega⟩
  · by_cases c2 : r.ht = l.ht + 2
    · obtain ⟨a, b⟩ := fix_right s hl hr c2
      exact ⟨a, by omega, fun _ _ => by omega⟩
    · rw [fix_none s (by omega) (by omega)]
      exact ⟨nodeB s hl hr (by omega) (by omega), .inl rfl, fun _ _ => rfl⟩
end Tr
end Go.Proofs.Ytaiaahcblohknaa
