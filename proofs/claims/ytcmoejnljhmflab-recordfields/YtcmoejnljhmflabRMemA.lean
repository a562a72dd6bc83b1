/- What is proved: small laws for RecordMemory: rows of operations that are written and grown; no condition. -/
import Derived.Test.YtcmoejnljhmflabRCopy
import Derived.Test.YtcmoejnljhmflabRRVal
import Derived.Test.YtcmoejnljhmflabRRBody
namespace Go.Proofs.Ytcmoejnljhmflab
open Go.RowKit

theorem ops_cells {w : World} {ad : Addr} {l : List OpM} (hl : OpsAt w (some ad) l) (j : Nat) (u : Value) (hu : (opc l)[j]? = some u) : w.cell? (ad.add j) = some u := by
  have hj := (List.getElem?_eq_some_iff.1 hu).1
  rw [length_opc] at hj
  obtain ⟨o, ho⟩ : ∃ o, l[j / 4]? = some o := ⟨_, List.getElem?_eq_getElem (by omega)⟩
  obtain ⟨b', off', e, hb', c0, c1, c2, c3⟩ := hl _ _ ho
  cases e
  rw [Addr.add_lit]
  obtain ⟨g0, g1, g2, g3⟩ := opc_get ho
  have h4 : j % 4 = 0 ∨ j % 4 = 1 ∨ j % 4 = 2 ∨ j % 4 = 3 := by omega
  rcases h4 with h4 | h4 | h4 | h4
  · rw [show j = j / 4 * 4 by omega] at hu ⊢
    rw [g0] at hu
    cases hu
    simpa [Nat.add_assoc] using c0
  · rw [show j = j / 4 * 4 + 1 by omega] at hu ⊢
    rw [g1] at hu
    cases hu
    simpa [Nat.add_assoc] using c1
  · rw [show j = j / 4 * 4 + 2 by omega] at hu ⊢
    rw [g2] at hu
    cases hu
    simpa [Nat.add_assoc] using c2
  · rw [show j = j / 4 * 4 + 3 by omega] at hu ⊢
    rw [g3] at hu
    cases hu
    simpa [Nat.add_assoc] using c3
/-- One operation more behind a row of one's own. -/
theorem app_op_one {w : World} {base : Nat} {v : Value} {xs : List OpM} (o : OpM) (hown : OwnO base w v xs) (hb : xs.length ≤ 1000) (hbase : base ≤ w.heap.size) (ty : TypeId) :
    ∃ v' w', (Builtin.append_ #[25, 25] ty #[v, .slice (some ⟨w.heap.size, 0, none⟩) 1 1]).run Try.prog (w.alloc (.cells #[.int .i64 o.kind, .string o.key, .bool o.found, .string o.value] 24)) = .ok v' w' ∧ OwnO base w' v' (xs ++ [o]) ∧ Same (fun k => v.ownBlock = some k) w w' ∧ ∀ k, v'.ownBlock = some k → v.ownBlock = some k ∨ w.heap.size ≤ k := by
  obtain ⟨i0, hi0, hz0, hz1, hz2⟩ := info_parts Try.infoOp
  have k0 : Kept w (w.alloc (.cells #[.int .i64 o.kind, .string o.key, .bool o.found, .string o.value] 24 (0, 0))) := (Same.refl _ w).alloc _
  have ho := OwnO.on hown k0
  obtain ⟨v', w', hr, r1, r2, _, r3⟩ := run_append_own_at (P := Try.prog) (w := w.alloc (.cells #[.int .i64 o.kind, .string o.key, .bool o.found, .string o.value] 24)) base 25 ty 24 i0 _ 4 48 Try.underlying25 hi0 hz0 hz1 hz2 rfl (by decide) v xs.length _ ho ⟨w.heap.size, 0, none⟩ 1 1 (opc [o]) (length_opc [o])
    (fun j u hu => ops_cells (ops_new w o) j u hu) (opc_one _) (by unfold maxLen; omega) (by omega) (by simp [World.size_alloc]; omega)
  rw [← opc_append] at r1
  refine ⟨v', w', hr, by rw [OwnO, List.length_append]; exact r1, (Kept.to k0 _).trans' (Same.of_grown r2 (fun k e => e)), fun k hk => ?_⟩
  rcases r3 with e | e
  · exact .inl (e ▸ hk)
  · rw [e] at hk
    cases hk
    rw [World.size_alloc]
    exact .inr (by omega)
/-- A store into a row of operations of one's own. -/
theorem OwnO.set {base : Nat} {w : World} {g n cap : Nat} {ds : List OpM} (h : OwnO base w (.slice (some ⟨g, 0, none⟩) n cap) ds) {i : Nat} (hi : i < ds.length) (o : OpM) :
    OwnO base ((((w.setCell ⟨g, i * 4, none⟩ (.int .i64 o.kind)).setCell ⟨g, i * 4 + 1, none⟩ (.string o.key)).setCell ⟨g, i * 4 + 2, none⟩ (.bool o.found)).setCell ⟨g, i * 4 + 3, none⟩ (.string o.value)) (.slice (some ⟨g, 0, none⟩) n cap) (ds.set i o) ∧
    (∃ v0 v1 v2 v3, w.cell? ⟨g, i * 4, none⟩ = some v0 ∧ w.cell? ⟨g, i * 4 + 1, none⟩ = some v1 ∧ w.cell? ⟨g, i * 4 + 2, none⟩ = some v2 ∧ w.cell? ⟨g, i * 4 + 3, none⟩ = some v3) ∧
    (w.frozen? ⟨g, i * 4, none⟩ = false ∧ w.frozen? ⟨g, i * 4 + 1, none⟩ = false ∧ w.frozen? ⟨g, i * 4 + 2, none⟩ = false ∧ w.frozen? ⟨g, i * 4 + 3, none⟩ = false) := by
  have h0 := h
  rcases h.2 with ⟨h', _⟩ | ⟨g', cap', cur, h', hb, hg, h1, h2, h3, h4⟩
  · cases h'
  · simp only [Value.slice.injEq, Option.some.injEq, Addr.mk.injEq, and_true] at h'
    obtain ⟨rfl, rfl, rfl⟩ := h'
    refine ⟨⟨by rw [length_opc, List.length_set], .inr ⟨g, cap, _, by rw [List.length_set], hb, setCell_at (setCell_at (setCell_at (setCell_at hg _ _) _ _) _ _) _ _, by rw [List.length_set]; exact h1, h2, by simpa using h3, ?_⟩⟩, ?_, frozen_of hg _, frozen_of hg _, frozen_of hg _, frozen_of hg _⟩
    · rw [List.length_set]
      simp only [Array.toList_setIfInBounds, List.take_set]
      rw [h4, opc_set _ _ _ hi]
    · obtain ⟨a, c, e, ho, -⟩ := OwnO.ops h0
      simp only [Value.slice.injEq] at e
      obtain ⟨rfl, -, -⟩ := e
      obtain ⟨b, off, e2, -, q0, q1, q2, q3⟩ := ho i _ (List.getElem?_eq_getElem hi)
      cases e2
      simp only [Nat.zero_add] at q0 q1 q2 q3
      exact ⟨_, _, _, _, q0, q1, q2, q3⟩
/-- A store into a row of bytes of one's own: what it asks for. -/
theorem OwnB.slot {base : Nat} {w : World} {g n cap : Nat} {l : List Int} (h : OwnB base w (.slice (some ⟨g, 0, none⟩) n cap) l) {i : Nat} (hi : i < l.length) : ∃ x, w.cell? ⟨g, i, none⟩ = some (.int .u8 x) := by
  obtain ⟨a, c, e, hb, -⟩ := OwnB.bytes h
  simp only [Value.slice.injEq] at e
  obtain ⟨rfl, -, -⟩ := e
  obtain ⟨b, off, e2, -, hc⟩ := hb i _ (List.getElem?_eq_getElem hi)
  cases e2
  rw [Nat.zero_add] at hc
  exact ⟨_, hc⟩
end Go.Proofs.Ytcmoejnljhmflab
