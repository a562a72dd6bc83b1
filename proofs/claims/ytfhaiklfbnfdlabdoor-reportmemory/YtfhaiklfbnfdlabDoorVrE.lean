/- What is proved: a list of structs is appended behind another list, a list is copied; conditions: lengths. -/
import Derived.Test.YtfhaiklfbnfdlabDoorRoA
namespace Go.Proofs.YtfhaiklfbnfdlabDoor.Vi
open Go.RowKit

section
variable {α : Type} [Inhabited α]
omit [Inhabited α] in
theorem At.load0 {enc : α → List Value} {k : Nat} (E : Ek enc k) {w : World} {b o : Nat} {l : List α} (h : At enc k w (some ⟨b, o, none⟩) l) {i : Nat} {x : α} (hx : l[i]? = some x) (P : Program) :
    Sem.run P (loadCellsFrom ⟨b, o + i * k, none⟩ 0 k #[]) w = .ok (enc x).toArray w := by
  have := h.loadg E hx P 0 #[]
  rwa [Sort.grow_empty] at this
omit [Inhabited α] in
theorem At.drop {enc : α → List Value} {k : Nat} {w : World} {b o : Nat} {l : List α} (h : At enc k w (some ⟨b, o, none⟩) l) (m : Nat) : At enc k w (some ⟨b, o + m * k, none⟩) (l.drop m) := fun j x hx => by
  rw [List.getElem?_drop] at hx
  obtain ⟨b', o', e, hb, hc⟩ := h (m + j) x hx
  cases e
  refine ⟨b, _, rfl, hb, fun c v hv => ?_⟩
  have := hc c v hv
  rwa [Nat.add_mul, ← Nat.add_assoc] at this
omit [Inhabited α] in
/-- A list behind a list of one's own. -/
theorem Own.cat {enc : α → List Value} {k : Nat} (E : Ek enc k) {P : Program} {t ty T : TypeId} {z : Value} {bytes : Nat} (ht : P.underlying t = some (.slice T)) (hi : (P.info? T).map (fun i => (i.zero, i.size, i.bytes)) = some (some z, k, bytes)) (hzs : z.cells.size = k)
    {w : World} {base : Nat} {v : Value} {xs : List α} (hown : Own enc k T base w v xs) {a : Option Addr} {c : Nat} {ys : List α} (hy : At enc k w a ys) (hn : a = none → ys.length = 0 ∧ c = 0) (hb : ((xs.length + ys.length) + (xs.length + ys.length) / 4 + 192) * bytes ≤ 281474976710656) (hm : xs.length + ys.length ≤ maxLen) (hbase : base ≤ w.heap.size) :
    ∃ v' w', (Builtin.append_ #[t, t] ty #[v, .slice a ys.length c]).run P w = .ok v' w' ∧ Own enc k T base w' v' (xs ++ ys) ∧ Same (fun k => v.ownBlock = some k) w w' ∧ ∀ k, v'.ownBlock = some k → v.ownBlock = some k ∨ w.heap.size ≤ k := by
  cases ys with
  | nil =>
    cases a with
    | none =>
      obtain ⟨h0, rfl⟩ := hn rfl
      obtain ⟨i0, hi0, -, -, -⟩ := info_parts hi
      exact ⟨v, w, run_append_owned_none (P := P) (w := w) base t ty T i0 k ht hi0 v xs.length _ hown, by rw [List.append_nil]; exact hown, Same.refl _ _, fun k hk => .inl hk⟩
    | some ad =>
      obtain ⟨v', w', hr, r1, r2, r3, -⟩ := Ch.app_wide (P := P) (t := t) (ty := ty) (c := c) (m := 0) (a := ad) (news := []) ht hi hzs E.pos hown (by simp) (fun j u hu => by simp at hu) (fun u hu => by cases hu) hm hb hbase
      refine ⟨v', w', hr, ?_, r2, r3⟩
      rw [List.append_nil] at r1 ⊢
      exact r1
  | cons y r => exact Own.app E ht hi hzs hown hy (by simp) hb hm hbase
omit [Inhabited α] in
theorem lit_own (enc : α → List Value) (k : Nat) (w : World) (T : TypeId) : Own enc k T w.heap.size (w.alloc (.cells #[] T)) (.slice (some ⟨w.heap.size, 0, none⟩) 0 0) ([] : List α) :=
  ⟨by simp [fl], .inr ⟨w.heap.size, 0, #[], rfl, Nat.le_refl _, heap_new _ _, Nat.le_refl _, Nat.zero_le _, by simp, by simp [fl]⟩⟩
omit [Inhabited α] in
/-- A copy of a list. -/
theorem copy_own {enc : α → List Value} {k : Nat} (E : Ek enc k) {P : Program} {t T : TypeId} {z : Value} {bytes : Nat} (ht : P.underlying t = some (.slice T)) (hi : (P.info? T).map (fun i => (i.zero, i.size, i.bytes)) = some (some z, k, bytes)) (hzs : z.cells.size = k)
    {w : World} {a : Option Addr} {c : Nat} {l : List α} (hy : At enc k w a l) (hn : a = none → l.length = 0 ∧ c = 0) (hb : (l.length + l.length / 4 + 192) * bytes ≤ 281474976710656) (hm : l.length ≤ maxLen) (ty : TypeId) :
    ∃ v' w', (Builtin.append_ #[t, t] ty #[.slice (some ⟨w.heap.size, 0, none⟩) 0 0, .slice a l.length c]).run P (w.alloc (.cells #[] T)) = .ok v' w' ∧ (Own enc k T w.heap.size w' v' l ∧ Kept w w') := by
  have k0 : Kept w (w.alloc (.cells #[] T)) := (Same.refl _ w).alloc _
  obtain ⟨v', w', h1, h2, h3, -⟩ := Own.cat E (ty := ty) ht hi hzs (lit_own enc k w T) (hy.on k0) hn (by simpa using hb) (by simpa using hm) (by rw [World.size_alloc]; omega)
  refine ⟨v', w', h1, by simpa using h2, ?_⟩
  exact (Kept.to k0 (fun k => w.heap.size ≤ k)).trans h3 (fun i _ e => by simp [Value.ownBlock] at e; omega) |>.mono fun i hi e => by omega
end
end Go.Proofs.YtfhaiklfbnfdlabDoor.Vi
