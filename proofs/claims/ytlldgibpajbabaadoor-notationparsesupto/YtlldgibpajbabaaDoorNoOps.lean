/- What is proved: rows of operations that grow; no condition. -/
import Derived.Test.YtlldgibpajbabaaDoorNoOp
namespace Go.Proofs.YtlldgibpajbabaaDoor
open Go.RowKit

theorem ops_new (w : World) (o : OpM) : OpsAt (w.alloc (.cells #[.int .i64 o.kind, .string o.key, .bool o.found, .string o.value] 49 (0, 0))) (some ⟨w.heap.size, 0, none⟩) [o] := fun i x hx => by
  cases i with
  | zero =>
    simp only [List.getElem?_cons_zero, Option.some.injEq] at hx
    subst hx
    exact ⟨w.heap.size, 0, rfl, by simp [World.size_alloc], (cell_of (heap_new w _) 0).trans rfl, (cell_of (heap_new w _) 1).trans rfl, (cell_of (heap_new w _) 2).trans rfl, (cell_of (heap_new w _) 3).trans rfl⟩
  | succ i => simp at hx
theorem OwnO.txa {base : Nat} {w : World} {t : TxM} {a : Option Addr} {cap : Nat} (o : OwnO base w (.slice a t.ops.length cap) t.ops) : TxA w t (txV t (.slice a t.ops.length cap)) := by
  obtain ⟨a', cap', e, h, -⟩ := OwnO.ops o
  simp only [Value.slice.injEq, true_and] at e
  obtain ⟨rfl, rfl⟩ := e
  exact ⟨a, cap, rfl, h⟩
theorem ops_cells {w : World} {ad : Addr} {l : List OpM} (hl : OpsAt w (some ad) l) (j : Nat) (u : Value) (hu : (opc l)[j]? = some u) : w.cell? (ad.add j) = some u := by
  have hj := (List.getElem?_eq_some_iff.1 hu).1
  rw [length_opc] at hj
  obtain ⟨o, ho⟩ : ∃ o, l[j / 4]? = some o := ⟨_, List.getElem?_eq_getElem (by omega)⟩
  obtain ⟨b', off', e, hb', c0, c1, c2, c3⟩ := hl _ _ ho
  cases e
  rw [Addr.add_lit]
  obtain ⟨g0, g1, g2, g3⟩ := opc_get ho
  have h4 : j % 4 = 0 ∨ j % 4 = 1 ∨ j % 4 = 2 ∨ j % 4 = 3 := by omega
  rcases h4 with h4 | h4 | h4 | h4
  · rw [show j = j / 4 * 4 by omega] at hu ⊢
    rw [g0] at hu
    cases hu
    simpa [Nat.add_assoc] using c0
  · rw [show j = j / 4 * 4 + 1 by omega] at hu ⊢
    rw [g1] at hu
    cases hu
    simpa [Nat.add_assoc] using c1
  · rw [show j = j / 4 * 4 + 2 by omega] at hu ⊢
    rw [g2] at hu
    cases hu
    simpa [Nat.add_assoc] using c2
  · rw [show j = j / 4 * 4 + 3 by omega] at hu ⊢
    rw [g3] at hu
    cases hu
    simpa [Nat.add_assoc] using c3
/-- One operation more behind a row of one's own. -/
theorem app_op_one {w : World} {base : Nat} {v : Value} {xs : List OpM} (o : OpM) (hown : OwnO base w v xs) (hb : xs.length ≤ 1000) (hbase : base ≤ w.heap.size) (ty : TypeId) :
    ∃ v' w', (Builtin.append_ #[23, 23] ty #[v, .slice (some ⟨w.heap.size, 0, none⟩) 1 1]).run Tryd.prog (w.alloc (.cells #[.int .i64 o.kind, .string o.key, .bool o.found, .string o.value] 49)) = .ok v' w' ∧ OwnO base w' v' (xs ++ [o]) ∧ Same (fun k => v.ownBlock = some k) w w' ∧ ∀ k, v'.ownBlock = some k → v.ownBlock = some k ∨ w.heap.size ≤ k := by
  obtain ⟨i0, hi0, hz0, hz1, hz2⟩ := info_parts Tryd.infoOp
  have k0 : Kept w (w.alloc (.cells #[.int .i64 o.kind, .string o.key, .bool o.found, .string o.value] 49 (0, 0))) := (Same.refl _ w).alloc _
  have ho := OwnO.on hown k0
  obtain ⟨v', w', hr, r1, r2, _, r3⟩ := run_append_own_at (P := Tryd.prog) (w := w.alloc (.cells #[.int .i64 o.kind, .string o.key, .bool o.found, .string o.value] 49)) base 23 ty 49 i0 _ 4 48 Tryd.underlying23 hi0 hz0 hz1 hz2 rfl (by decide) v xs.length _ ho ⟨w.heap.size, 0, none⟩ 1 1 (opc [o]) (length_opc [o])
    (fun j u hu => ops_cells (ops_new w o) j u hu) (opc_one _) (by unfold maxLen; omega) (by omega) (by simp [World.size_alloc]; omega)
  rw [← opc_append] at r1
  refine ⟨v', w', hr, by rw [OwnO, List.length_append]; exact r1, (Kept.to k0 _).trans' (Same.of_grown r2 (fun k e => e)), fun k hk => ?_⟩
  rcases r3 with e | e
  · exact .inl (e ▸ hk)
  · rw [e] at hk
    cases hk
    rw [World.size_alloc]
    exact .inr (by omega)
end Go.Proofs.YtlldgibpajbabaaDoor
