/- What is proved: plain facts on trees of spans and on the document's list of all spans: taking out; a key's part of the list; the one that ends first; no condition. -/
import Derived.Test.YtaiaahcblohknaaYMore
namespace Go.Proofs.Ytaiaahcblohknaa

namespace Tr
/-- A way to make one tree of two, the first ahead of the second. -/
def Joins (J : Tr → Tr → Tr) : Prop := ∀ l r, (J l r).list = l.list ++ r.list ∧ (l.Bal → r.Bal → l.ht ≤ r.ht + 1 → r.ht ≤ l.ht + 1 → (J l r).Bal ∧ ∀ s, (J l r).ht = (node l s r).ht ∨ (J l r).ht + 1 = (node l s r).ht)
/-- By the least of the second. -/
def joinL (l r : Tr) : Tr := match l with
  | nil => r
  | node _ _ _ => match r.popL with
    | none => l
    | some (m, r') => fix l m r'
/-- By the greatest of the first. -/
def joinR (l r : Tr) : Tr := match r with
  | nil => l
  | node _ _ _ => match l.popR with
    | none => r
    | some (m, l') => fix l' m r
theorem joinL_ok : Joins joinL := fun l r => by
  have hz : (nil : Tr).ht = 0 := rfl
  cases l with
  | nil => exact ⟨rfl, fun _ hr _ _ => ⟨hr, fun s => by have := ht_node nil s r; show r.ht = _ ∨ r.ht + 1 = _; omega⟩⟩
  | node a x b =>
    unfold joinL
    cases hp : r.popL with
    | none =>
      obtain rfl := popL_none hp
      exact ⟨by simp [list], fun hl _ _ _ => ⟨hl, fun s => by have := ht_node (node a x b) s nil; show (node a x b).ht = _ ∨ (node a x b).ht + 1 = _; omega⟩⟩
    | some q =>
      obtain ⟨m, r'⟩ := q
      obtain ⟨h1, h2⟩ := popL_some hp
      refine ⟨by show (fix (node a x b) m r').list = _; rw [fix_list, h1], fun hl hr k1 k2 => ?_⟩
      obtain ⟨h3, h4⟩ := h2 hr
      obtain ⟨c, d, f⟩ := fix_bal m hl h3 (by omega) (by omega)
      refine ⟨c, fun s => ?_⟩
      show (fix (node a x b) m r').ht = _ ∨ (fix (node a x b) m r').ht + 1 = _
      have e1 := ht_node (node a x b) s r
      have e2 := ht_node (node a x b) m r'
      by_cases hc : (node a x b).ht ≤ r'.ht + 1
      · have := f hc (by omega); omega
      · omega
theorem joinR_ok : Joins joinR := fun l r => by
  have hz : (nil : Tr).ht = 0 := rfl
  cases r with
  | nil => exact ⟨by simp [joinR, list], fun hl _ _ _ => ⟨hl, fun s => by have := ht_node l s nil; show l.ht = _ ∨ l.ht + 1 = _; omega⟩⟩
  | node a x b =>
    unfold joinR
    cases hp : l.popR with
    | none =>
      obtain rfl := popR_none hp
      exact ⟨rfl, fun _ hr _ _ => ⟨hr, fun s => by have := ht_node nil s (node a x b); show (node a x b).ht = _ ∨ (node a x b).ht + 1 = _; omega⟩⟩
    | some q =>
      obtain ⟨m, l'⟩ := q
      obtain ⟨h1, h2⟩ := popR_some hp
      refine ⟨by show (fix l' m (node a x b)).list = _; rw [fix_list, h1]; simp, fun hl hr k1 k2 => ?_⟩
      obtain ⟨h3, h4⟩ := h2 hl
      obtain ⟨c, d, f⟩ := fix_bal m h3 hr (by omega) (by omega)
      refine ⟨c, fun s => ?_⟩
      show (fix l' m (node a x b)).ht = _ ∨ (fix l' m (node a x b)).ht + 1 = _
      have e1 := ht_node l s (node a x b)
      have e2 := ht_node l' m (node a x b)
      by_cases hc : (node a x b).ht ≤ l'.ht + 1
      · have := f (by omega) hc; omega
      · omega
/-- Taken out. -/
def del (J : Tr → Tr → Tr) : Tr → Sp → Tr
  | nil, _ => nil
  | node l s r, x => if sl x s = true then fix (del J l x) s r else if sl s x = true then fix l s (del J r x) else J l r
theorem keep_all {l : List Sp} {x : Sp} (h : x ∉ l) : l.filter (fun y => decide (y ≠ x)) = l := List.filter_eq_self.2 fun _ hy => decide_eq_true fun e => h (e ▸ hy)
theorem del_list {J : Tr → Tr → Tr} (hJ : Joins J) {t : Tr} (h : Srt t.list) (x : Sp) : (del J t x).list = t.list.filter (fun y => decide (y ≠ x)) := by
  induction t with
  | nil => rfl
  | node l s r ihl ihr =>
    obtain ⟨hl, hr, h1, h2⟩ := srt_parts h
    unfold del
    show _ = (l.list ++ s :: r.list).filter _
    rw [List.filter_append, List.filter_cons]
    split
    · rename_i hc
      have n1 : s ≠ x := fun e => by rw [e, sl_irrefl] at hc; cases hc
      have n2 : x ∉ r.list := fun e => by have := sl_asymm (h2 x e); rw [hc] at this; cases this
      rw [fix_list, ihl hl, if_pos (decide_eq_true n1), keep_all n2]
    · rename_i hc
      split
      · rename_i hd
        have n1 : s ≠ x := fun e => by rw [e, sl_irrefl] at hd; cases hd
        have n2 : x ∉ l.list := fun e => by have := sl_asymm (h1 x e); rw [hd] at this; cases this
        rw [fix_list, ihr hr, if_pos (decide_eq_true n1), keep_all n2]
      · rename_i hd
        have e : x = s := sl_eq (by simpa using hc) (by simpa using hd)
        have n1 : x ∉ l.list := fun k => by have := h1 x k; rw [e, sl_irrefl] at this; cases this
        have n2 : x ∉ r.list := fun k => by have := h2 x k; rw [e, sl_irrefl] at this; cases this
        rw [(hJ l r).1, keep_all n1, keep_all n2, if_neg (by simp [e])]
theorem del_bal {J : Tr → Tr → Tr} (hJ : Joins J) {t : Tr} (h : t.Bal) (x : Sp) : (del J t x).Bal ∧ ((del J t x).ht = t.ht ∨ (del J t x).ht + 1 = t.ht) := by
  induction t with
  | nil => exact ⟨trivial, .inl rfl⟩
  | node l s r ihl ihr =>
    obtain ⟨k1, k2, hl, hr⟩ := h
    have e := ht_node l s r
    unfold del
    split
    · obtain ⟨a, b⟩ := ihl hl
      obtain ⟨c, d, f⟩ := fix_bal s a hr (by omega) (by omega)
      have e2 := ht_node (del J l x) s r
      refine ⟨c, ?_⟩
      by_cases hc : r.ht ≤ (del J l x).ht + 1
      · have := f (by omega) hc; omega
      · omega
    · split
      · obtain ⟨a, b⟩ := ihr hr
        obtain ⟨c, d, f⟩ := fix_bal s hl a (by omega) (by omega)
        have e2 := ht_node l s (del J r x)
        refine ⟨c, ?_⟩
        by_cases hc : l.ht ≤ (del J r x).ht + 1
        · have := f hc (by omega); omega
        · omega
      · obtain ⟨a, b⟩ := (hJ l r).2 hl hr k1 k2
        exact ⟨a, b s⟩
end Tr
/-- A span with its key. -/
structure Ks where
  key : ByteArray
  s : Sp
/-- A key's spans. -/
def kf (A : List Ks) (k : ByteArray) : List Sp := (A.filter fun e => e.key.toList == k.toList).map (·.s)
/-- In order, several of one kind may stand beside one another. -/
abbrev Wks (A : List Ks) : Prop := A.Pairwise fun a b => sl b.s a.s = false
/-- Put where the document puts it. -/
def rput : List Ks → Ks → List Ks
  | [], x => [x]
  | a :: r, x => if sl x.s a.s = true then x :: a :: r else a :: rput r x
theorem rput_mem {A : List Ks} {x y : Ks} (h : y ∈ rput A x) : y = x ∨ y ∈ A := by
  induction A with
  | nil => exact .inl (by simpa [rput] using h)
  | cons a r ih =>
    unfold rput at h
    split at h
    · simpa using h
    · rcases List.mem_cons.1 h with h | h
      · exact .inr (by simp [h])
      · rcases ih h with h | h
        · exact .inl h
        · exact .inr (by simp [h])
theorem sl_of_not {a b c : Sp} (h : sl a b = true) (k : sl c b = false) : sl a c = true := by
  cases e : sl b c
  · have := sl_eq e k
    rw [← this]; exact h
  · exact sl_trans h e
theorem rput_wks {A : List Ks} (h : Wks A) (x : Ks) : Wks (rput A x) := by
  induction A with
  | nil => exact List.pairwise_singleton _ _
  | cons a r ih =>
    obtain ⟨h1, h2⟩ := List.pairwise_cons.1 h
    unfold rput
    split
    · rename_i hc
      refine List.pairwise_cons.2 ⟨fun b hb => ?_, h⟩
      rcases List.mem_cons.1 hb with rfl | hb
      · exact sl_asymm hc
      · exact sl_asymm (sl_of_not hc (h1 b hb))
    · rename_i hc
      refine List.pairwise_cons.2 ⟨fun b hb => ?_, ih h2⟩
      rcases rput_mem hb with rfl | hb
      · simpa using hc
      · exact h1 b hb
theorem kf_cons (a : Ks) (r : List Ks) (k : ByteArray) : kf (a :: r) k = (if (a.key.toList == k.toList) = true then [a.s] else []) ++ kf r k := by
  unfold kf
  rw [List.filter_cons]
  split <;> rfl
theorem kf_mem {A : List Ks} {k : ByteArray} {s : Sp} (h : s ∈ kf A k) : ∃ e ∈ A, e.s = s := by
  obtain ⟨e, he, rfl⟩ := List.mem_map.1 h
  exact ⟨e, (List.mem_filter.1 he).1, rfl⟩
theorem putL_first {l : List Sp} {x : Sp} (h : ∀ y ∈ l, sl x y = true) : putL l x = x :: l := by
  cases l with
  | nil => rfl
  | cons a r => unfold putL; rw [if_pos (h a (by simp))]
/-- A key's part is put in as into a list of that key alone; the other keys' stay. -/
theorem rput_same {A : List Ks} (h : Wks A) {x : Ks} {k : ByteArray} (hk : x.key.toList = k.toList) : kf (rput A x) k = putL (kf A k) x.s := by
  induction A with
  | nil => simp [rput, kf, putL, hk]
  | cons a r ih =>
    obtain ⟨h1, h2⟩ := List.pairwise_cons.1 h
    unfold rput
    split
    · rename_i hc
      rw [kf_cons x, if_pos (beq_iff_eq.2 hk), putL_first (fun y hy => ?_)]
      · rfl
      · obtain ⟨e, he, rfl⟩ := kf_mem hy
        rcases List.mem_cons.1 he with rfl | he
        · exact hc
        · exact sl_of_not hc (h1 e he)
    · rename_i hc
      rw [kf_cons a (rput r x), ih h2, kf_cons a r]
      split
      · show _ = putL (a.s :: kf r k) x.s
        rw [putL, if_neg hc]
        rfl
      · rfl
theorem rput_other {A : List Ks} {x : Ks} {k : ByteArray} (hk : x.key.toList ≠ k.toList) : kf (rput A x) k = kf A k := by
  induction A with
  | nil => simp [rput, kf, hk]
  | cons a r ih =>
    unfold rput
    split
    · rw [kf_cons x, if_neg (by simpa using hk)]
      rfl
    · rw [kf_cons, ih, kf_cons a r]
theorem rput_length (A : List Ks) (x : Ks) : (rput A x).length = A.length + 1 := by
  induction A with
  | nil => rfl
  | cons a r ih =>
    unfold rput
    split
    · rfl
    · simp [ih]
/-- Does a end ahead of b? -/
def fl (a b : Sp) : Bool := decide (a.t < b.t ∨ (a.t = b.t ∧ (a.i < b.i ∨ (a.i = b.i ∧ a.f < b.f))))
/-- The better of two. -/
def bet : Option Sp → Option Sp → Option Sp
  | none, o => o
  | some a, none => some a
  | some a, some b => if fl b a = true then some b else some a
/-- The one that ends first. -/
def bst (l : List Sp) : Option Sp := l.foldr (fun x o => bet (some x) o) none
theorem bet_assoc (a b c : Option Sp) : bet (bet a b) c = bet a (bet b c) := by
  cases a with
  | none => rfl
  | some a => cases b with
    | none => cases c <;> rfl
    | some b => cases c with
      | none =>
        show bet (if fl b a = true then some b else some a) none = if fl b a = true then some b else some a
        split <;> rfl
      | some c =>
        simp only [bet]
        by_cases h1 : fl b a = true <;> by_cases h2 : fl c b = true <;> by_cases h3 : fl c a = true <;> simp only [h1, h2, h3, if_true, if_false, Bool.false_eq_true]
        all_goals (exfalso; simp only [fl, decide_eq_true_eq] at h1 h2 h3; omega)
theorem bst_append (A B : List Sp) : bst (A ++ B) = bet (bst A) (bst B) := by
  induction A with
  | nil => rfl
  | cons a r ih =>
    show bet (some a) (bst (r ++ B)) = bet (bet (some a) (bst r)) (bst B)
    rw [ih, bet_assoc]
end Go.Proofs.Ytaiaahcblohknaa
