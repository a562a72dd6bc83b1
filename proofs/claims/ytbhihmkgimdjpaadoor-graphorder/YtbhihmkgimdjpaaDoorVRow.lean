/- What is proved: rows of elements of several cells in memory: read, written element by element, grown; and worlds that have only grown; no condition. -/
import Derived.Test.YtbhihmkgimdjpaaDoorVSort
import Derived.Test.YtbhihmkgimdjpaaDoorJWide
import Derived.Shelf.GgSortFunc.RowK
import Derived.Shelf.SlicesQ.Load
import Derived.Shelf.SlSortCmp.QuietGrown
import Derived.BigQuiet
import Derived.BigRegion
import Derived.Carry
import Derived.Deep.RegionHeld3
import Derived.Deep.RegionLaw
import Derived.Deep.RegionWith
import Derived.Deep.QuietTactic
import Derived.Deep.CutRange
import Derived.Deep.DeepCutAuto
import Derived.StillTailTactics
namespace Go.Proofs.YtbhihmkgimdjpaaDoor
open Go.RowKit

/-- New blocks and draws alone. -/
def Grw (w w' : World) : Prop := ∃ q os, w' = Sort.grow (w.drewN q) os
theorem Grw.refl (w : World) : Grw w w := ⟨0, #[], by rw [Sort.grow_empty]; rfl⟩
theorem Grw.trans {a b c : World} (h : Grw a b) (k : Grw b c) : Grw a c := by
  obtain ⟨q, os, rfl⟩ := h
  obtain ⟨r, ot, rfl⟩ := k
  refine ⟨q + r, os ++ ot, ?_⟩
  rw [← Sort.grow_grow, ← World.drewN_drewN]
  rfl
theorem Grw.drew {a b : World} (h : Grw a b) : Grw a b.drew := h.trans ⟨1, #[], by rw [Sort.grow_empty]; rfl⟩
theorem Grw.drewN {a b : World} (h : Grw a b) (n : Nat) : Grw a (b.drewN n) := h.trans ⟨n, #[], by rw [Sort.grow_empty]⟩
theorem Grw.alloc {a b : World} (h : Grw a b) (o : Obj) : Grw a (b.alloc o) := h.trans ⟨0, #[o], by rw [Sort.alloc_eq_grow]; rfl⟩
theorem Grw.grow {a b : World} (h : Grw a b) (n : Nat) (os : Array Obj) : Grw a (Sort.grow (b.drewN n) os) := h.trans ⟨n, os, rfl⟩
theorem Grw.kept {a b : World} (h : Grw a b) : Kept a b := by
  obtain ⟨q, os, rfl⟩ := h
  exact ⟨rfl, rfl, rfl, by rw [Sort.size_grow]; exact Nat.le_add_right _ _, fun k hk _ => Sort.heap_grow_old _ _ hk⟩

section
variable {α : Type} [Inhabited α]
/-- The cells of a list. -/
def fl (enc : α → List Value) (l : List α) : List Value := l.flatMap enc
/-- Each element has so many cells, one value each. -/
structure Ek (enc : α → List Value) (k : Nat) : Prop where
  len : ∀ x, (enc x).length = k
  one : ∀ x, ∀ v ∈ enc x, v.oneCell' = true
  pos : 0 < k
omit [Inhabited α] in
theorem fl_append (enc : α → List Value) (a b : List α) : fl enc (a ++ b) = fl enc a ++ fl enc b := by simp [fl]
omit [Inhabited α] in
theorem fl_cons (enc : α → List Value) (a : α) (b : List α) : fl enc (a :: b) = enc a ++ fl enc b := rfl
omit [Inhabited α] in
theorem fl_one {enc : α → List Value} {k : Nat} (E : Ek enc k) (l : List α) : ∀ v ∈ fl enc l, v.oneCell' = true := by
  intro v hv
  obtain ⟨o, _, hf⟩ := List.mem_flatMap.1 hv
  exact E.one o v hf
omit [Inhabited α] in
theorem length_fl {enc : α → List Value} {k : Nat} (E : Ek enc k) (l : List α) : (fl enc l).length = l.length * k := by
  induction l with
  | nil => simp [fl]
  | cons a r ih => rw [fl_cons, List.length_append, ih, E.len, List.length_cons, Nat.add_mul, Nat.one_mul, Nat.add_comm]
omit [Inhabited α] in
theorem fl_get {enc : α → List Value} {k : Nat} (E : Ek enc k) {l : List α} {i : Nat} {x : α} (h : l[i]? = some x) (c : Nat) (hc : c < k) : (fl enc l)[i * k + c]? = (enc x)[c]? := by
  induction l generalizing i with
  | nil => simp at h
  | cons a r ih =>
    rw [fl_cons]
    cases i with
    | zero =>
      simp only [List.getElem?_cons_zero, Option.some.injEq] at h
      subst h
      rw [Nat.zero_mul, Nat.zero_add, List.getElem?_append_left (by rw [E.len]; exact hc)]
    | succ i =>
      simp only [List.getElem?_cons_succ] at h
      have e : (i + 1) * k + c = k + (i * k + c) := by rw [Nat.add_mul, Nat.one_mul]; omega
      rw [e, List.getElem?_append_right (by rw [E.len]; omega), E.len, ← ih h]
      congr 1
      omega
omit [Inhabited α] in
theorem place_lt {i n c k : Nat} (hi : i < n) (hc : c < k) : i * k + c < n * k := by
  have := Nat.mul_le_mul_right k (show i + 1 ≤ n from hi)
  rw [Nat.add_mul, Nat.one_mul] at this
  omega
omit [Inhabited α] in
theorem fl_set {enc : α → List Value} {k : Nat} (E : Ek enc k) {l : List α} {i : Nat} (hi : i < l.length) (x : α) (t : Nat) : (fl enc (l.set i x))[t]? = if i * k ≤ t ∧ t < i * k + k then (enc x)[t - i * k]? else (fl enc l)[t]? := by
  have k0 := E.pos
  by_cases ht : t < l.length * k
  · have hd : t / k < l.length := by rw [Nat.div_lt_iff_lt_mul k0]; exact ht
    have hm : t % k < k := Nat.mod_lt _ k0
    have et : t / k * k + t % k = t := by rw [Nat.mul_comm]; exact Nat.div_add_mod t k
    have q : (i * k ≤ t ∧ t < i * k + k) ↔ t / k = i := Sort.blk_iff k i t k0
    by_cases e : t / k = i
    · rw [if_pos (q.2 e)]
      have h1 : (l.set i x)[i]? = some x := by rw [List.getElem?_set]; simp [hi]
      have := fl_get E h1 (t % k) hm
      rw [e] at et
      rw [et] at this
      rw [this]
      congr 1
      omega
    · rw [if_neg (fun h => e (q.1 h))]
      obtain ⟨y, hy⟩ : ∃ y, l[t / k]? = some y := ⟨_, List.getElem?_eq_getElem hd⟩
      have h1 : (l.set i x)[t / k]? = some y := by rw [List.getElem?_set, if_neg (fun h => e h.symm)]; exact hy
      have a := fl_get E h1 (t % k) hm
      have b := fl_get E hy (t % k) hm
      rw [et] at a b
      rw [a, b]
  · have hik : i * k + k ≤ l.length * k := by have := Nat.mul_le_mul_right k (show i + 1 ≤ l.length from hi); rwa [Nat.add_mul, Nat.one_mul] at this
    rw [if_neg (by omega), List.getElem?_eq_none (by rw [length_fl E, List.length_set]; omega), List.getElem?_eq_none (by rw [length_fl E]; omega)]
/-- A list in memory, as it is read. -/
def At (enc : α → List Value) (k : Nat) (w : World) (a : Option Addr) (l : List α) : Prop := ∀ j x, l[j]? = some x → ∃ b o, a = some ⟨b, o, none⟩ ∧ b < w.heap.size ∧ ∀ c v, (enc x)[c]? = some v → w.cell? ⟨b, o + j * k + c, none⟩ = some v
omit [Inhabited α] in
theorem At.nil (enc : α → List Value) (k : Nat) (w : World) (a : Option Addr) : At enc k w a ([] : List α) := fun j x h => by simp at h
omit [Inhabited α] in
theorem At.kept {S : Nat → Prop} {enc : α → List Value} {k : Nat} {w w' : World} {a : Option Addr} {l : List α} (h : At enc k w a l) (hs : Same S w w') (hn : ∀ b o, a = some ⟨b, o, none⟩ → b < w.heap.size → ¬ S b) : At enc k w' a l := fun j x hx => by
  obtain ⟨b, o, e, hb, hc⟩ := h j x hx
  exact ⟨b, o, e, Nat.lt_of_lt_of_le hb hs.size, fun c v hv => (hs.cell (p := ⟨b, _, none⟩) hb (hn b o e hb)).trans (hc c v hv)⟩
omit [Inhabited α] in
theorem At.on {enc : α → List Value} {k : Nat} {w w' : World} {a : Option Addr} {l : List α} (h : At enc k w a l) (hs : Kept w w') : At enc k w' a l := h.kept hs fun _ _ _ _ e => e
omit [Inhabited α] in
theorem At.take {enc : α → List Value} {k : Nat} {w : World} {a : Option Addr} {l : List α} (h : At enc k w a l) (n : Nat) : At enc k w a (l.take n) := fun j x hx => by
  rw [List.getElem?_take] at hx
  split at hx
  · exact h j x hx
  · cases hx
/-- A list of one's own. -/
def Own (enc : α → List Value) (k : Nat) (T : TypeId) (base : Nat) (w : World) (v : Value) (l : List α) : Prop := w.ownsRow base T k v l.length (fl enc l)
omit [Inhabited α] in
theorem Own.nil (enc : α → List Value) (k : Nat) (T : TypeId) (base : Nat) (w : World) : Own enc k T base w (.slice none 0 0) ([] : List α) := ⟨by simp [fl], .inl ⟨rfl, rfl⟩⟩
omit [Inhabited α] in
theorem Own.kept {S : Nat → Prop} {enc : α → List Value} {k : Nat} {T : TypeId} {base : Nat} {w w' : World} {v : Value} {l : List α} (h : Own enc k T base w v l) (hs : Same S w w') (hn : ∀ b, v.ownBlock = some b → ¬ S b) : Own enc k T base w' v l := by
  rcases h.2 with ⟨rfl, h0⟩ | ⟨g, cap, cur, rfl, hb, hg, hr⟩
  · exact ⟨h.1, .inl ⟨rfl, h0⟩⟩
  · exact ⟨h.1, .inr ⟨g, cap, cur, rfl, hb, (hs.block g (lt_of_heap hg) (hn g rfl)).trans hg, hr⟩⟩
omit [Inhabited α] in
theorem Own.on {enc : α → List Value} {k : Nat} {T : TypeId} {base : Nat} {w w' : World} {v : Value} {l : List α} (h : Own enc k T base w v l) (hs : Kept w w') : Own enc k T base w' v l := h.kept hs fun _ _ e => e
omit [Inhabited α] in
theorem Own.base {enc : α → List Value} {k : Nat} {T : TypeId} {base base' : Nat} {w : World} {v : Value} {l : List α} (h : Own enc k T base w v l) (hb : base' ≤ base) : Own enc k T base' w v l := by
  rcases h.2 with ⟨rfl, h0⟩ | ⟨g, cap, cur, rfl, hb2, hg, hr⟩
  · exact ⟨h.1, .inl ⟨rfl, h0⟩⟩
  · exact ⟨h.1, .inr ⟨g, cap, cur, rfl, Nat.le_trans hb hb2, hg, hr⟩⟩
omit [Inhabited α] in
theorem Own.block {enc : α → List Value} {k : Nat} {T : TypeId} {base : Nat} {w : World} {v : Value} {l : List α} (h : Own enc k T base w v l) {b : Nat} (hk : v.ownBlock = some b) : base ≤ b ∧ ∃ cur, w.heap[b]? = some (.cells cur T (0, 0)) := by
  rcases h.2 with ⟨rfl, h0⟩ | ⟨g, cap, cur, rfl, hb, hg, hr⟩
  · cases hk
  · cases hk
    exact ⟨hb, cur, hg⟩
omit [Inhabited α] in
theorem Own.shape {enc : α → List Value} {k : Nat} {T : TypeId} {base : Nat} {w : World} {v : Value} {l : List α} (h : Own enc k T base w v l) : ∃ a cap, v = .slice a l.length cap ∧ l.length ≤ cap ∧ (a = none → l = [] ∧ cap = 0) ∧ (∀ ad, a = some ad → ∃ g, ad = ⟨g, 0, none⟩ ∧ base ≤ g ∧ g < w.heap.size) := by
  rcases h.2 with ⟨rfl, hn⟩ | ⟨g, cap, cur, rfl, hb, hg, h1, h2, h3, h4⟩
  · exact ⟨none, 0, by rw [hn], by omega, fun _ => ⟨List.eq_nil_of_length_eq_zero hn, rfl⟩, fun _ e => (by cases e)⟩
  · exact ⟨some ⟨g, 0, none⟩, cap, rfl, h1, fun e => (by cases e), fun ad e => by cases e; exact ⟨g, rfl, hb, lt_of_heap hg⟩⟩
omit [Inhabited α] in
theorem Own.at {enc : α → List Value} {k : Nat} (E : Ek enc k) {T : TypeId} {base : Nat} {w : World} {a : Option Addr} {m cap : Nat} {l : List α} (h : Own enc k T base w (.slice a m cap) l) : At enc k w a l := fun j x hx => by
  rcases h.2 with ⟨e0, hn⟩ | ⟨g, cap', cur, e0, hb, hg, h1, h2, h3, h4⟩
  · rw [List.eq_nil_of_length_eq_zero hn] at hx
    simp at hx
  · cases e0
    refine ⟨g, 0, rfl, lt_of_heap hg, fun c v hv => ?_⟩
    have hc : c < k := by have := (List.getElem?_eq_some_iff.1 hv).1; rwa [E.len] at this
    have hu := (fl_get E hx c hc).trans hv
    rw [cell_of hg, Nat.zero_add]
    rw [← h4, List.getElem?_take] at hu
    split at hu
    · simpa using hu
    · cases hu
theorem setCells_block (w : World) (b o : Nat) (vs : List Value) {arr : Array Value} {ty : TypeId} (h : w.heap[b]? = some (.cells arr ty (0, 0))) : (w.setCells b o vs).heap[b]? = some (.cells (Sort.setMany arr o vs) ty (0, 0)) := by
  induction vs generalizing w o arr with
  | nil => exact h
  | cons v vs ih => exact ih _ _ (setCell_at h o v)
theorem setCells_same (w : World) (b o : Nat) (vs : List Value) : Same (fun k => k = b) w (w.setCells b o vs) := by
  induction vs generalizing w o with
  | nil => exact Same.refl _ _
  | cons v vs ih =>
    have h0 : Same (fun k => k = b) w (w.setCell ⟨b, o, none⟩ v) := (Same.refl (fun k => k = b) w).setCell ⟨b, o, none⟩ (.inr rfl) v
    exact h0.trans' (ih _ _)
omit [Inhabited α] in
/-- An element is stored. -/
theorem Own.put {enc : α → List Value} {k : Nat} (E : Ek enc k) {T : TypeId} {base : Nat} {w : World} {g m cap : Nat} {l : List α} (h : Own enc k T base w (.slice (some ⟨g, 0, none⟩) m cap) l) {i : Nat} (hi : i < l.length) (x : α) (P : Program) :
    Sem.run P (storeCells ⟨g, i * k, none⟩ (enc x) 0) w = .ok () (w.setCells g (i * k) (enc x)) ∧ Own enc k T base (w.setCells g (i * k) (enc x)) (.slice (some ⟨g, 0, none⟩) m cap) (l.set i x) ∧ Same (fun b => b = g) w (w.setCells g (i * k) (enc x)) := by
  rcases h.2 with ⟨e0, hn⟩ | ⟨g', cap', cur, e0, hb, hg, h1, h2, h3, h4⟩
  · cases e0
  cases e0
  have hik : i * k + k ≤ cap * k := by have := Nat.mul_le_mul_right k (show i + 1 ≤ cap by omega); rwa [Nat.add_mul, Nat.one_mul] at this
  refine ⟨?_, ⟨?_, .inr ⟨g, cap, _, by rw [List.length_set], hb, setCells_block w g (i * k) (enc x) hg, by rw [List.length_set]; exact h1, h2, by rw [Sort.size_setMany]; exact h3, ?_⟩⟩, setCells_same _ _ _ _⟩
  · have := run_storeCells_cells (P := P) g (i * k) (enc x) 0 w (fun c hc => by
      rw [E.len] at hc
      rw [Nat.add_zero, cell_of hg, Array.getElem?_eq_getElem (by rw [h3]; omega)]; rfl) (fun c _ => frozen_of hg _) (E.one x)
    rwa [Nat.add_zero] at this
  · rw [length_fl E]
  · apply List.ext_getElem?
    intro t
    rw [fl_set E hi, List.getElem?_take, List.length_set, Array.getElem?_toList]
    by_cases ht : t < l.length * k
    · have htc : t < cur.size := by rw [h3]; exact Nat.lt_of_lt_of_le ht (Nat.mul_le_mul_right k h1)
      rw [if_pos ht]
      have hgm := Sort.get_setMany (enc x) (i * k) cur t htc
      rw [getElem!_pos _ t (by rw [Sort.size_setMany]; exact htc)] at hgm
      rw [Array.getElem?_eq_getElem (by rw [Sort.size_setMany]; exact htc), hgm, E.len]
      by_cases hin : i * k ≤ t ∧ t < i * k + k
      · rw [if_pos hin, if_pos hin, getElem!_pos (enc x) _ (by rw [E.len]; omega), List.getElem?_eq_getElem (by rw [E.len]; omega)]
      · rw [if_neg hin, if_neg hin, getElem!_pos cur t htc]
        have := congrArg (·[t]?) h4
        simp only [List.getElem?_take, Array.getElem?_toList, if_pos ht] at this
        rw [← this, Array.getElem?_eq_getElem htc]
    · rw [if_neg ht]
      have hik2 : i * k + k ≤ l.length * k := by have := Nat.mul_le_mul_right k (show i + 1 ≤ l.length from hi); rwa [Nat.add_mul, Nat.one_mul] at this
      rw [if_neg (by omega), List.getElem?_eq_none (by rw [length_fl E]; omega)]
omit [Inhabited α] in
/-- One element more. -/
theorem Own.app {enc : α → List Value} {k : Nat} (E : Ek enc k) {P : Program} {t ty T : TypeId} {z : Value} {bytes : Nat} (ht : P.underlying t = some (.slice T)) (hi : (P.info? T).map (fun i => (i.zero, i.size, i.bytes)) = some (some z, k, bytes)) (hzs : z.cells.size = k)
    {w : World} {base : Nat} {v : Value} {xs : List α} (hown : Own enc k T base w v xs) {a : Option Addr} {c : Nat} {ys : List α} (hy : At enc k w a ys) (hn : ys ≠ []) (hb : ((xs.length + ys.length) + (xs.length + ys.length) / 4 + 192) * bytes ≤ 281474976710656) (hm : xs.length + ys.length ≤ maxLen) (hbase : base ≤ w.heap.size) :
    ∃ v' w', (Builtin.append_ #[t, t] ty #[v, .slice a ys.length c]).run P w = .ok v' w' ∧ Own enc k T base w' v' (xs ++ ys) ∧ Same (fun k => v.ownBlock = some k) w w' ∧ ∀ k, v'.ownBlock = some k → v.ownBlock = some k ∨ w.heap.size ≤ k := by
  obtain ⟨y0, hy0⟩ : ∃ y, ys[0]? = some y := by cases ys with
    | nil => exact absurd rfl hn
    | cons y r => exact ⟨y, rfl⟩
  obtain ⟨b, o, rfl, hbl, -⟩ := hy 0 y0 hy0
  obtain ⟨v', w', hr, r1, r2, r3, -⟩ := Ch.app_wide (P := P) (t := t) (ty := ty) (c := c) (m := ys.length) (a := ⟨b, o, none⟩) (news := fl enc ys) ht hi hzs E.pos hown (length_fl E ys) (fun j u hu => by
    have hj : j < ys.length * k := by have := (List.getElem?_eq_some_iff.1 hu).1; rwa [length_fl E] at this
    have k0 := E.pos
    have hd : j / k < ys.length := by rw [Nat.div_lt_iff_lt_mul k0]; exact hj
    have hm2 : j % k < k := Nat.mod_lt _ k0
    have et : j / k * k + j % k = j := by rw [Nat.mul_comm]; exact Nat.div_add_mod j k
    obtain ⟨y, hyj⟩ : ∃ y, ys[j / k]? = some y := ⟨_, List.getElem?_eq_getElem hd⟩
    obtain ⟨b', o', e, -, hc⟩ := hy _ y hyj
    cases e
    have hg := fl_get E hyj (j % k) hm2
    rw [et, hu] at hg
    have := hc _ u hg.symm
    rw [Nat.add_assoc, et] at this
    rw [Addr.add_lit]
    exact this) (fl_one E ys) hm hb hbase
  rw [← fl_append] at r1
  exact ⟨v', w', hr, by rw [Own, List.length_append]; exact r1, r2, r3⟩
end
end Go.Proofs.YtbhihmkgimdjpaaDoor
