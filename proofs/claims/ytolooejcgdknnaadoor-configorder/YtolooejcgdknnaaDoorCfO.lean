/- What is proved: the law ConfigOrder; condition: the library's table of powers lies as its text lays it. -/
import Derived.Test.YtolooejcgdknnaaDoorCfE
import Derived.Maps.AppendAt
namespace Go.Proofs.YtolooejcgdknnaaDoor
open Go.RowKit

theorem Tryd.infoStr23 : (Tryd.prog.info? 9).map (fun i => (i.zero, i.size, i.bytes)) = some (some (.string .empty), 1, 16) := by kernel_rfl
/-- A row of texts of one's own. -/
def OwnT (base : Nat) (w : World) (v : Value) (l : List (List UInt8)) : Prop := w.ownsRow base 9 1 v l.length (l.map tx)
theorem OwnT.nil (base : Nat) (w : World) : OwnT base w (.slice none 0 0) [] := ⟨rfl, .inl ⟨rfl, rfl⟩⟩
theorem OwnT.kept {base : Nat} {w w' : World} {v : Value} {l : List (List UInt8)} (h : OwnT base w v l) (k : Kept w w') : OwnT base w' v l := by
  refine ⟨h.1, ?_⟩
  rcases h.2 with h1 | ⟨g, cap, cur, e, hb, hg, r⟩
  · exact .inl h1
  · exact .inr ⟨g, cap, cur, e, hb, (k.block _ (lt_of_heap hg) (fun e => e)).trans hg, r⟩
theorem app_tx1 {w : World} {base : Nat} {v : Value} {l : List (List UInt8)} (p : List UInt8) (hown : OwnT base w v l) (hl : l.length ≤ 1000) (hbase : base ≤ w.heap.size) (ty : TypeId) :
    ∃ v' w', (Builtin.append_ #[38, 38] ty #[v, .slice (some ⟨w.heap.size, 0, none⟩) 1 1]).run Tryd.prog (w.alloc (.cells #[tx p] 9)) = .ok v' w' ∧ OwnT base w' v' (l ++ [p]) ∧ Same (fun i => base ≤ i) w w' := by
  obtain ⟨i0, hi0, hz0, hz1, hz2⟩ := info_parts Tryd.infoStr23
  have k : Kept w (w.alloc (.cells #[tx p] 9)) := (Same.refl _ w).alloc _
  have h2 := hown.kept k
  obtain ⟨v', w', hr, r1, r2, _, _⟩ := run_append_own_at (P := Tryd.prog) (w := w.alloc (.cells #[tx p] 9)) base 38 ty 9 i0 _ 1 16 Tryd.underlying38 hi0 hz0 hz1 hz2 rfl (by decide) v l.length _ h2 ⟨w.heap.size, 0, none⟩ 1 1 [tx p] rfl
    (fun j u hu => by
      rcases j with _ | j
      · cases hu
        rw [Addr.add_lit]
        exact cell_of (heap_new w _) 0
      · simp at hu) (fun u hu => by simp only [List.mem_singleton] at hu; subst hu; rfl) (by unfold maxLen; omega) (by omega) (by simp; omega)
  refine ⟨v', w', hr, ?_, ?_⟩
  · show w'.ownsRow base 9 1 v' (l ++ [p]).length ((l ++ [p]).map tx)
    rw [List.length_append, List.map_append]
    exact r1
  · have s2 : Same (fun i => v.ownBlock = some i) (w.alloc (.cells #[tx p] 9)) w' := Same.of_grown r2 (fun k e => e)
    refine Same.trans ((Same.refl _ w).alloc _) s2 (fun i hi e => ?_)
    rcases hown.2 with ⟨rfl, -⟩ | ⟨g, cap, cur, rfl, hb, hg, -⟩
    · cases e
    · simp only [Value.ownBlock, Option.some.injEq] at e
      omega
/-- The texts lie in the row. -/
theorem OwnT.at {base : Nat} {w : World} {v : Value} {l : List (List UInt8)} (h : OwnT base w v l) (hl : 0 < l.length) : ∃ g cap, v = .slice (some ⟨g, 0, none⟩) l.length cap ∧ g < w.heap.size ∧ ∀ i p, l[i]? = some p → w.cell? ⟨g, i, none⟩ = some (tx p) := by
  rcases h.2 with ⟨rfl, hn⟩ | ⟨g, cap, cur, rfl, hb, hg, h1, h2, h3, h4⟩
  · exact absurd hn (by omega)
  · refine ⟨g, cap, rfl, lt_of_heap hg, fun i p hp => ?_⟩
    rw [cell_of hg]
    have hi := (List.getElem?_eq_some_iff.1 hp).1
    have e : (l.map tx)[i]? = some (tx p) := by rw [List.getElem?_map, hp]; rfl
    rw [← h4, List.getElem?_take_of_lt (by omega)] at e
    simpa using e
/-- What a place in the text stands for while its pieces are told. -/
def Spp (l : List UInt8) (a i : Nat) (ps : List (List UInt8)) : Prop := a ≤ i ∧ i ≤ l.length + 1 ∧ (i ≤ l.length → Nb l a i ∧ pcs l = ps ++ pcs (l.drop a)) ∧ (i = l.length + 1 → pcs l = ps)
theorem Spp.skip {l : List UInt8} {a i : Nat} {ps : List (List UInt8)} {b : UInt8} (h : Spp l a i ps) (hb : l[i]? = some b) (hn : ¬ b = 32) : Spp l a (i + 1) ps := by
  obtain ⟨h1, h2, h3, h4⟩ := h
  have hi := (List.getElem?_eq_some_iff.1 hb).1
  obtain ⟨h5, h6⟩ := h3 (by omega)
  refine ⟨by omega, by omega, fun _ => ⟨fun j h7 h8 => ?_, h6⟩, fun h7 => by omega⟩
  by_cases e : j < i
  · exact h5 j h7 e
  · obtain rfl : j = i := by omega
    rw [hb]
    exact fun e => hn (Option.some.inj e)
theorem Spp.piece {l : List UInt8} {a i : Nat} {ps : List (List UInt8)} (h : Spp l a i ps) (hi : i ≤ l.length) (hb : i = l.length ∨ l[i]? = some 32) : Spp l (i + 1) (i + 1) (ps ++ [(l.drop a).take (i - a)]) := by
  obtain ⟨h1, h2, h3, h4⟩ := h
  obtain ⟨h5, h6⟩ := h3 hi
  by_cases e : i = l.length
  · subst e
    exact ⟨Nat.le_refl _, Nat.le_refl _, fun h7 => by omega, fun _ => by rw [h6, pcs_end h5]⟩
  · replace hb := hb.resolve_left e
    refine ⟨Nat.le_refl _, by omega, fun h7 => ⟨fun j h8 h9 => by omega, ?_⟩, fun h7 => by omega⟩
    rw [h6, pcs_mid h1 (by omega) h5 hb]
    simp
theorem spp_len {l : List UInt8} {a i : Nat} {ps : List (List UInt8)} (h : Spp l a i ps) : ps.length ≤ (pcs l).length := by
  obtain ⟨h1, h2, h3, h4⟩ := h
  by_cases e : i ≤ l.length
  · rw [(h3 e).2]; simp
  · rw [h4 (by omega)]; exact Nat.le_refl _
end Go.Proofs.YtolooejcgdknnaaDoor
