/- What is proved: plain facts on trees of spans: putting in, taking out, looking for: what they leave of the order and of the balance; which parts of a tree hold no span that overlaps; no condition. -/
import Derived.Test.YtaiaahcblohknaaYModel
namespace Go.Proofs.Ytaiaahcblohknaa

/-- In order, each once. -/
abbrev Srt (l : List Sp) : Prop := l.Pairwise fun a b => sl a b = true
theorem Srt.unique {l m : List Sp} (h : Srt l) (k : Srt m) (e : ∀ x, x ∈ l ↔ x ∈ m) : l = m := by
  refine List.Perm.eq_of_pairwise (le := fun a b => sl a b = true) (fun a b _ _ h1 h2 => ?_) h k ?_
  · rw [sl_asymm h1] at h2; cases h2
  · have nd : ∀ {l : List Sp}, Srt l → l.Nodup := fun hp => List.Pairwise.imp (fun {a b} hab (e : a = b) => by rw [e, sl_irrefl] at hab; cases hab) hp
    exact (List.perm_ext_iff_of_nodup (nd h) (nd k)).2 e
/-- Put where it belongs. -/
def putL : List Sp → Sp → List Sp
  | [], x => [x]
  | a :: r, x => if sl x a = true then x :: a :: r else a :: putL r x
theorem putL_left {x s : Sp} (h : sl x s = true) (A B : List Sp) : putL (A ++ s :: B) x = putL A x ++ s :: B := by
  induction A with
  | nil => simp [putL, h]
  | cons a r ih =>
    simp only [List.cons_append, putL]
    split
    · rfl
    · rw [ih]; rfl
theorem putL_right {x : Sp} {A : List Sp} (h : ∀ a ∈ A, sl x a = false) (B : List Sp) : putL (A ++ B) x = A ++ putL B x := by
  induction A with
  | nil => rfl
  | cons a r ih =>
    simp only [List.cons_append, putL]
    rw [if_neg (by rw [h a (by simp)]; decide), ih (fun b hb => h b (by simp [hb]))]
theorem putL_mem {l : List Sp} {x y : Sp} : y ∈ putL l x ↔ y = x ∨ y ∈ l := by
  induction l with
  | nil => simp [putL]
  | cons a r ih =>
    unfold putL
    split
    · simp
    · rw [List.mem_cons, ih, List.mem_cons]
      constructor
      · rintro (h | h | h)
        · exact .inr (.inl h)
        · exact .inl h
        · exact .inr (.inr h)
      · rintro (h | h | h)
        · exact .inr (.inl h)
        · exact .inl h
        · exact .inr (.inr h)
theorem putL_srt {l : List Sp} (h : Srt l) {x : Sp} (hx : x ∉ l) : Srt (putL l x) := by
  induction l with
  | nil => exact List.pairwise_singleton _ _
  | cons a r ih =>
    obtain ⟨h1, h2⟩ := List.pairwise_cons.1 h
    unfold putL
    split
    · rename_i hl
      refine List.pairwise_cons.2 ⟨fun b hb => ?_, h⟩
      rcases List.mem_cons.1 hb with rfl | hb
      · exact hl
      · exact sl_trans hl (h1 b hb)
    · rename_i hl
      refine List.pairwise_cons.2 ⟨fun b hb => ?_, ih h2 (fun e => hx (by simp [e]))⟩
      rcases putL_mem.1 hb with rfl | hb
      · cases e : sl a b
        · have := sl_eq e (by simpa using hl)
          exact absurd (by simp [this]) hx
        · rfl
      · exact h1 b hb
theorem putL_length (l : List Sp) (x : Sp) : (putL l x).length = l.length + 1 := by
  induction l with
  | nil => rfl
  | cons a r ih =>
    unfold putL
    split
    · rfl
    · simp [ih]
namespace Tr
theorem srt_parts {l : Tr} {s : Sp} {r : Tr} (h : Srt (node l s r).list) : Srt l.list ∧ Srt r.list ∧ (∀ a ∈ l.list, sl a s = true) ∧ ∀ b ∈ r.list, sl s b = true := by
  obtain ⟨h1, h2, h3⟩ := List.pairwise_append.1 h
  obtain ⟨h4, h5⟩ := List.pairwise_cons.1 h2
  exact ⟨h1, h5, fun a ha => h3 a ha s (by simp), h4⟩
/-- Is it there? -/
def has : Tr → Sp → Bool
  | nil, _ => false
  | node l s r, x => if sl x s = true then l.has x else if sl s x = true then r.has x else true
theorem has_iff {t : Tr} (h : Srt t.list) (x : Sp) : t.has x = true ↔ x ∈ t.list := by
  induction t with
  | nil => simp [has, list]
  | node l s r ihl ihr =>
    obtain ⟨hl, hr, h1, h2⟩ := srt_parts h
    unfold has
    show _ ↔ x ∈ l.list ++ s :: r.list
    rw [List.mem_append, List.mem_cons]
    split
    · rename_i hx
      rw [ihl hl]
      refine ⟨.inl, fun e => ?_⟩
      rcases e with e | rfl | e
      · exact e
      · rw [sl_irrefl] at hx; cases hx
      · have := sl_asymm (h2 x e); rw [hx] at this; cases this
    · rename_i hx
      split
      · rename_i hy
        rw [ihr hr]
        refine ⟨fun e => .inr (.inr e), fun e => ?_⟩
        rcases e with e | rfl | e
        · have := sl_asymm (h1 x e); rw [hy] at this; cases this
        · rw [sl_irrefl] at hy; cases hy
        · exact e
      · rename_i hy
        have : x = s := sl_eq (by simpa using hx) (by simpa using hy)
        simp [this]
/-- Put in. -/
def ins : Tr → Sp → Tr
  | nil, x => node nil x nil
  | node l s r, x => if sl x s = true then fix (l.ins x) s r else if sl s x = true then fix l s (r.ins x) else node l s r
theorem ins_list {t : Tr} (h : Srt t.list) {x : Sp} (hx : x ∉ t.list) : (t.ins x).list = putL t.list x := by
  induction t with
  | nil => rfl
  | node l s r ihl ihr =>
    obtain ⟨hl, hr, h1, h2⟩ := srt_parts h
    have hx2 : x ∉ l.list ∧ x ≠ s ∧ x ∉ r.list := by
      have : x ∉ l.list ++ s :: r.list := hx
      rw [List.mem_append, List.mem_cons] at this
      exact ⟨fun e => this (.inl e), fun e => this (.inr (.inl e)), fun e => this (.inr (.inr e))⟩
    unfold ins
    show _ = putL (l.list ++ s :: r.list) x
    split
    · rename_i hc
      rw [fix_list, ihl hl hx2.1, putL_left hc]
    · rename_i hc
      split
      · rename_i hd
        rw [fix_list, ihr hr hx2.2.2, show l.list ++ s :: r.list = (l.list ++ [s]) ++ r.list by simp, putL_right (A := l.list ++ [s]) (fun a ha => ?_)]
        · simp
        · rcases List.mem_append.1 ha with ha | ha
          · exact sl_asymm (sl_trans (h1 a ha) hd)
          · obtain rfl : a = s := by simpa using ha
            exact sl_asymm hd
      · rename_i hd
        exact absurd (sl_eq (by simpa using hc) (by simpa using hd)) hx2.2.1
theorem ins_bal {t : Tr} (h : t.Bal) (x : Sp) : (t.ins x).Bal ∧ ((t.ins x).ht = t.ht ∨ (t.ins x).ht = t.ht + 1) := by
  induction t with
  | nil => exact ⟨⟨by decide, by decide, trivial, trivial⟩, .inr rfl⟩
  | node l s r ihl ihr =>
    obtain ⟨k1, k2, hl, hr⟩ := h
    unfold ins
    have e := ht_node l s r
    split
    · obtain ⟨a, b⟩ := ihl hl
      obtain ⟨c, d, f⟩ := fix_bal s a hr (by omega) (by omega)
      have e2 := ht_node (l.ins x) s r
      refine ⟨c, ?_⟩
      by_cases hc : (l.ins x).ht ≤ r.ht + 1
      · have := f hc (by omega); omega
      · omega
    · split
      · obtain ⟨a, b⟩ := ihr hr
        obtain ⟨c, d, f⟩ := fix_bal s hl a (by omega) (by omega)
        have e2 := ht_node l s (r.ins x)
        refine ⟨c, ?_⟩
        by_cases hc : (r.ins x).ht ≤ l.ht + 1
        · have := f (by omega) hc; omega
        · omega
      · exact ⟨⟨k1, k2, hl, hr⟩, .inl rfl⟩
/-- The least, and what is left without it. -/
def popL : Tr → Option (Sp × Tr)
  | nil => none
  | node l s r => match l.popL with
    | none => some (s, r)
    | some (m, l') => some (m, fix l' s r)
theorem popL_none {t : Tr} (h : t.popL = none) : t = nil := by
  cases t with
  | nil => rfl
  | node l s r =>
    unfold popL at h
    split at h <;> cases h
theorem popL_some {t : Tr} {m : Sp} {t' : Tr} (h : t.popL = some (m, t')) : t.list = m :: t'.list ∧ (t.Bal → t'.Bal ∧ (t'.ht = t.ht ∨ t'.ht + 1 = t.ht)) := by
  induction t generalizing m t' with
  | nil => cases h
  | node l s r ihl _ =>
    unfold popL at h
    have e := ht_node l s r
    split at h
    · rename_i hn
      obtain rfl := popL_none hn
      cases h
      refine ⟨rfl, fun hb => ⟨hb.2.2.2, ?_⟩⟩
      have : (nil : Tr).ht = 0 := rfl
      omega
    · rename_i m' l' hn
      cases h
      obtain ⟨a, b⟩ := ihl hn
      refine ⟨by rw [fix_list]; show l.list ++ s :: r.list = _; rw [a]; rfl, fun hb => ?_⟩
      obtain ⟨k1, k2, hl, hr⟩ := hb
      obtain ⟨c, d⟩ := b hl
      obtain ⟨c2, d2, f⟩ := fix_bal s c hr (by omega) (by omega)
      have e2 := ht_node l' s r
      refine ⟨c2, ?_⟩
      by_cases hc : r.ht ≤ l'.ht + 1
      · have := f (by omega) hc; omega
      · omega
/-- The greatest, and what is left without it. -/
def popR : Tr → Option (Sp × Tr)
  | nil => none
  | node l s r => match r.popR with
    | none => some (s, l)
    | some (m, r') => some (m, fix l s r')
theorem popR_none {t : Tr} (h : t.popR = none) : t = nil := by
  cases t with
  | nil => rfl
  | node l s r =>
    unfold popR at h
    split at h <;> cases h
theorem popR_some {t : Tr} {m : Sp} {t' : Tr} (h : t.popR = some (m, t')) : t.list = t'.list ++ [m] ∧ (t.Bal → t'.Bal ∧ (t'.ht = t.ht ∨ t'.ht + 1 = t.ht)) := by
  induction t generalizing m t' with
  | nil => cases h
  | node l s r _ ihr =>
    unfold popR at h
    have e := ht_node l s r
    split at h
    · rename_i hn
      obtain rfl := popR_none hn
      cases h
      refine ⟨rfl, fun hb => ⟨hb.2.2.1, ?_⟩⟩
      have : (nil : Tr).ht = 0 := rfl
      omega
    · rename_i m' r' hn
      cases h
      obtain ⟨a, b⟩ := ihr hn
      refine ⟨by rw [fix_list]; show l.list ++ s :: r.list = _; rw [a]; simp, fun hb => ?_⟩
      obtain ⟨k1, k2, hl, hr⟩ := hb
      obtain ⟨c, d⟩ := b hr
      obtain ⟨c2, d2, f⟩ := fix_bal s hl c (by omega) (by omega)
      have e2 := ht_node l s r'
      refine ⟨c2, ?_⟩
      by_cases hc : l.ht ≤ r'.ht + 1
      · have := f hc (by omega); omega
      · omega
end Tr
/-- Does it overlap? -/
def ovl (f t : Int) (s : Sp) : Bool := decide (s.f < t ∧ f < s.t)
/-- Where no end lies behind f nothing overlaps. -/
theorem ovl_ends {l : List Sp} {f t : Int} (h : ∀ x ∈ l, x.t ≤ f) : l.filter (ovl f t) = [] := by
  rw [List.filter_eq_nil_iff]
  intro a ha
  have := h a ha
  simp only [ovl, decide_eq_true_eq]
  omega
/-- Behind one that begins at t or later nothing overlaps. -/
theorem ovl_begins {l : List Sp} {s : Sp} {f t : Int} (h : ∀ x ∈ l, sl s x = true) (hs : t ≤ s.f) : l.filter (ovl f t) = [] := by
  rw [List.filter_eq_nil_iff]
  intro a ha
  have := (sl_iff s a).1 (h a ha)
  simp only [ovl, decide_eq_true_eq]
  omega
end Go.Proofs.Ytaiaahcblohknaa
