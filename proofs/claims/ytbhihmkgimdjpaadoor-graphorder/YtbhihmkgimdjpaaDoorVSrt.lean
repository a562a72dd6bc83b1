/- What is proved: a list of one's own as the library's sort speaks of it, before and behind the sort; no condition. -/
import Derived.Test.YtbhihmkgimdjpaaDoorVRow
import Derived.Shelf.GgSortFunc.InsertionK
namespace Go.Proofs.YtbhihmkgimdjpaaDoor
open Go.RowKit

section
variable {α : Type} [Inhabited α]
theorem flatK_eq {enc : α → List Value} {k : Nat} (E : Ek enc k) (l : List α) : Sort.flatK enc k l.toArray = (fl enc l).toArray := by
  refine Sort.ext_get! (by rw [Sort.size_flatK]; simp [length_fl E]) fun t ht => ?_
  rw [Sort.size_flatK] at ht
  simp only [List.size_toArray] at ht
  have k0 := E.pos
  have hd : t / k < l.length := by rw [Nat.div_lt_iff_lt_mul k0]; exact ht
  have hm : t % k < k := Nat.mod_lt _ k0
  have et : t / k * k + t % k = t := by rw [Nat.mul_comm]; exact Nat.div_add_mod t k
  obtain ⟨x, hx⟩ : ∃ x, l[t / k]? = some x := ⟨_, List.getElem?_eq_getElem hd⟩
  have a := fl_get E hx (t % k) hm
  rw [et] at a
  rw [Sort.get_flatK _ _ _ _ (by simpa using ht)]
  have e1 : l.toArray[t / k]! = x := by
    rw [getElem!_pos _ _ (by simpa using hd)]
    obtain ⟨h1, h2⟩ := List.getElem?_eq_some_iff.1 hx
    simpa using h2
  rw [e1]
  have hlt : t < (fl enc l).length := by rw [length_fl E]; exact ht
  have hlm : t % k < (enc x).length := by rw [E.len]; exact hm
  rw [getElem!_pos (enc x) _ hlm, getElem!_pos ((fl enc l).toArray) t (by simpa using hlt)]
  rw [List.getElem?_eq_getElem hlt, List.getElem?_eq_getElem hlm] at a
  simp only [Option.some.injEq] at a
  simpa using a.symm
theorem Own.holdsK {enc : α → List Value} {k : Nat} (E : Ek enc k) {T : TypeId} {base : Nat} {w : World} {g m cap : Nat} {l : List α} (h : Own enc k T base w (.slice (some ⟨g, 0, none⟩) m cap) l) : Sort.HoldsK enc k w g 0 l.toArray := by
  unfold Sort.HoldsK
  rw [flatK_eq E]
  rcases h.2 with ⟨e0, hn⟩ | ⟨g', cap', cur, e0, hb, hg, h1, h2, h3, h4⟩
  · cases e0
  cases e0
  intro j hj
  have hj' : j < (fl enc l).length := by simpa using hj
  have hj2 : j < l.length * k := by rwa [length_fl E] at hj'
  refine ⟨?_, frozen_of hg _⟩
  rw [cell_of hg, Nat.zero_add]
  have q : (cur.toList.take (l.length * k))[j]? = (fl enc l)[j]? := by rw [h4]
  rw [List.getElem?_take_of_lt hj2, Array.getElem?_toList] at q
  rw [q, List.getElem?_eq_getElem hj', getElem!_pos _ j hj]
  simp
theorem Own.sorted {enc : α → List Value} {k : Nat} (E : Ek enc k) {T : TypeId} {base : Nat} {w : World} {g m cap : Nat} {l : List α} (h : Own enc k T base w (.slice (some ⟨g, 0, none⟩) m cap) l) (ts : List α) (ht : ts.length = l.length) (n : Nat) (os : Array Obj) :
    Own enc k T base (sortWorldK enc k w g 0 n ts.toArray os) (.slice (some ⟨g, 0, none⟩) m cap) ts ∧ Same (fun b => b = g) w (sortWorldK enc k w g 0 n ts.toArray os) := by
  rcases h.2 with ⟨e0, hn⟩ | ⟨g', cap', cur, e0, hb, hg, h1, h2, h3, h4⟩
  · cases e0
  cases e0
  have hgl := lt_of_heap hg
  have hblk : (sortWorldK enc k w g 0 n ts.toArray os).heap[g]? = some (.cells (Sort.putCells id 0 (fl enc ts).toArray cur) T (0, 0)) := by
    unfold sortWorldK Sort.putRowK
    rw [flatK_eq E, Sort.heap_grow_old _ _ (by simpa using hgl)]
    simp [Sort.putRow, Sort.mapBlock, Sort.ahead, Array.getElem?_modify, hg, Sort.onCells]
  have hflc : (fl enc ts).length ≤ cur.size := by rw [length_fl E, h3, ht]; exact Nat.mul_le_mul_right k h1
  refine ⟨⟨length_fl E ts, .inr ⟨g, cap, _, by rw [ht], hb, hblk, by rw [ht]; exact h1, h2, by simp [Sort.putCells, h3], ?_⟩⟩, ?_⟩
  · rw [← length_fl E]
    apply List.ext_getElem?
    intro j
    by_cases hj : j < (fl enc ts).length
    · rw [List.getElem?_take_of_lt hj, Array.getElem?_toList]
      simp [Sort.putCells, hj, show j < cur.size by omega]
    · rw [List.getElem?_take_eq_none (by omega), List.getElem?_eq_none (by omega)]
  · refine ⟨rfl, rfl, rfl, ?_, fun b hb2 hne => ?_⟩
    · unfold sortWorldK
      rw [Sort.size_grow]
      exact Nat.le_trans (by simp [Sort.putRowK, Sort.ahead]) (Nat.le_add_right _ _)
    · unfold sortWorldK Sort.putRowK
      rw [Sort.heap_grow_old _ _ (by simpa using hb2)]
      have : g ≠ b := fun e => hne e.symm
      simp [Sort.putRow, Sort.mapBlock, Sort.ahead, Array.getElem?_modify, this]
end
end Go.Proofs.YtbhihmkgimdjpaaDoor
