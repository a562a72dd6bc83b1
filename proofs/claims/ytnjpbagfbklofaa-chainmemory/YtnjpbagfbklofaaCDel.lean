/- What is proved: slices.Delete of the first versions of a chain of one's own leaves the others, in the same memory. -/
import Derived.Test.YtnjpbagfbklofaaCIns
import Derived.Laws.CopyRow
namespace Go.Proofs.Ytnjpbagfbklofaa
open Go.RowKit

/-- A row of versions in block g with room for cap. -/
structure Rv4 (w : World) (g cap : Nat) (l : List Vn) : Prop where
  ex : ∃ cur : Array Value, w.heap[g]? = some (.cells cur 31 (0, 0)) ∧ cur.size = cap * 4 ∧ cur.toList.take (l.length * 4) = vcs l
  le : l.length ≤ cap
  cm : cap ≤ maxLen
theorem Rv4.own {w : World} {g cap : Nat} {l : List Vn} (h : Rv4 w g cap l) : OwnV 0 w (.slice (some ⟨g, 0, none⟩) l.length cap) l := by
  obtain ⟨⟨cur, h1, h2, h3⟩, h4, h5⟩ := h
  exact ⟨length_vcs l, .inr ⟨g, cap, cur, rfl, Nat.zero_le _, h1, h4, h5, h2, h3⟩⟩
theorem Rv4.of {w : World} {v : Value} {l : List Vn} (h : OwnV 0 w v l) (hl : l ≠ []) : ∃ g cap, v = .slice (some ⟨g, 0, none⟩) l.length cap ∧ Rv4 w g cap l := by
  rcases h.2 with ⟨_, hn⟩ | ⟨g, cap, cur, rfl, _, hg, h1, h2, h3, h4⟩
  · exact absurd (List.eq_nil_of_length_eq_zero hn) hl
  · exact ⟨g, cap, rfl, ⟨cur, hg, h3, h4⟩, h1, h2⟩
theorem Rv4.on {w w' : World} {g cap : Nat} {l : List Vn} (h : Rv4 w g cap l) (k : Kept w w') : Rv4 w' g cap l := by
  obtain ⟨⟨cur, h1, h2, h3⟩, h4, h5⟩ := h
  exact ⟨⟨cur, (k.block g (lt_of_heap h1) (fun e => e)).trans h1, h2, h3⟩, h4, h5⟩
theorem same_row {w : World} (g : Nat) (c : Array Value) : Same (fun k => k = g) w (w.setRow g c) := ⟨rfl, rfl, rfl, by simp, fun k _ hk => setRow_other w g k _ (fun e => hk e)⟩
theorem del_app {w : World} {g cap : Nat} {l : List Vn} (h : Rv4 w g cap l) {j : Nat} (hj : j < l.length) (ty : TypeId) :
    ∃ v' w', (Builtin.append_ #[41, 41] ty #[.slice (some ⟨g, 0, none⟩) 0 cap, .slice (some ⟨g, j * 4, none⟩) (l.length - j) (cap - j)]).run Try.prog w = .ok v' w' ∧ v' = .slice (some ⟨g, 0, none⟩) (l.length - j) cap ∧ Rv4 w' g cap (l.drop j) ∧ Same (fun k => k = g) w w' := by
  obtain ⟨⟨cur, h1, h2, h3⟩, h4, h5⟩ := h
  obtain ⟨i0, hi0, hz0, hz1, hz2⟩ := info_parts Try.infoVer
  have hln : (vcs (l.drop j)).length = (l.length - j) * i0.size := by rw [length_vcs, hz1, List.length_drop]
  have hr := run_append_room (P := Try.prog) w 41 ty 31 i0 Try.underlying41 hi0 g 0 cap cur h1 ⟨g, j * 4, none⟩ (l.length - j) (cap - j) (vcs (l.drop j)) hln
    (fun t u hu => by
      rw [Addr.add_lit, cell_of h1]
      rw [← vcs_drop, List.getElem?_drop, ← h3] at hu
      have ht := (List.getElem?_eq_some_iff.1 hu).1
      rw [List.getElem?_take_of_lt (by simp at ht; omega)] at hu
      simpa using hu) (vcs_one _) (by omega) (by rw [hln, hz1, h2]; omega)
  refine ⟨_, _, hr, by rw [Nat.zero_add], ⟨⟨_, setRow_heap w g cur _ 31 _ h1, ?_, ?_⟩, by rw [List.length_drop]; omega, h5⟩, same_row g _⟩
  · simp only [Nat.zero_mul, Nat.zero_add, List.take_zero, List.nil_append, List.size_toArray, List.length_append, List.length_drop, Array.length_toList, hln, hz1]
    omega
  · simp only [Nat.zero_mul, List.take_zero, List.nil_append, ← length_vcs]
    exact List.take_left
theorem del_clr {w : World} {g cap : Nat} {l : List Vn} (h : Rv4 w g cap l) {j c : Nat} (hj : l.length + j ≤ cap) (hj0 : 0 < j) (ty : TypeId) :
    ∃ w', (Builtin.clear_ #[41] ty #[.slice (some ⟨g, l.length * 4, none⟩) j c]).run Try.prog w = .ok (.tuple #[]) w' ∧ Rv4 w' g cap l ∧ Same (fun k => k = g) w w' := by
  obtain ⟨⟨cur, h1, h2, h3⟩, h4, h5⟩ := h
  obtain ⟨zs, ez⟩ : ∃ zs, zs = (Builtin.zeroCells (Value.agg #[.int .i64 0, .int .i64 0, .bool false, .string ⟨#[]⟩]).cells j).toList := ⟨_, rfl⟩
  have hzl : zs.length = j * 4 := by
    rw [ez, Array.length_toList, size_zeroCells]
    rfl
  have hone : ∀ v ∈ zs, v.oneCell' = true := fun v hv => by
    rw [ez] at hv
    simp only [Builtin.zeroCells, Value.cells, Array.toList_map, List.mem_map] at hv
    obtain ⟨i, _, rfl⟩ := hv
    show (#[Value.int .i64 0, .int .i64 0, .bool false, .string ⟨#[]⟩][i % 4]!).oneCell' = true
    have hm : i % 4 = 0 ∨ i % 4 = 1 ∨ i % 4 = 2 ∨ i % 4 = 3 := by omega
    rcases hm with e | e | e | e <;> rw [e] <;> rfl
  have hst := run_storeCells_at Try.prog g (l.length * 4) 31 zs 0 cur w h1 (by rw [hzl, h2]; omega) hone
  simp only [Nat.add_zero] at hst
  have hzv : ∀ w, (zeroValue 31).run Try.prog w = .ok (.agg #[.int .i64 0, .int .i64 0, .bool false, .string ⟨#[]⟩]) w := fun w => by kernel_rfl
  obtain ⟨m, rfl⟩ : ∃ m, j = m + 1 := ⟨j - 1, by omega⟩
  refine ⟨w.setRow g (cur.toList.take (l.length * 4) ++ zs ++ cur.toList.drop (l.length * 4 + zs.length)).toArray, by simp [Builtin.clear_, run_underlying Try.underlying41, hzv, ← ez, hst], ⟨⟨_, setRow_heap w g cur _ 31 _ h1, ?_, ?_⟩, h4, h5⟩, same_row g _⟩
  · simp only [List.size_toArray, List.length_append, List.length_take, List.length_drop, Array.length_toList, hzl]
    omega
  · have hlt : (cur.toList.take (l.length * 4)).length = l.length * 4 := by simp; omega
    simp only [List.append_assoc]
    rw [List.take_append_of_le_length (by rw [hlt]; exact Nat.le_refl _), List.take_take, Nat.min_self]
    exact h3
end Go.Proofs.Ytnjpbagfbklofaa
