/- What is proved: the document's Copy of a transaction that lies in memory; the bounds that a machine's memory sets. -/
import Derived.Test.YtbjmdpfoeeadeaaROpenT
namespace Go.Proofs.Ytbjmdpfoeeadeaa
open Go.RowKit

theorem app_ops_lit {w : World} {l : List OpM} {oa : Option Addr} {c : Nat} (hl : OpsAt w oa l) (hnil : oa = none → l.length = 0 ∧ c = 0) (hb : l.length * 48 ≤ 140737488355328) (ty : TypeId) :
    ∃ v' w', (Builtin.append_ #[22, 22] ty #[.slice (some ⟨w.heap.size, 0, none⟩) 0 0, .slice oa l.length c]).run Try.prog (w.alloc (.cells #[] 79)) = .ok v' w' ∧ OwnO w.heap.size w' v' l ∧ Kept w w' := by
  obtain ⟨i0, hi0, hz0, hz1, hz2⟩ := info_parts Try.infoOp
  have hown : (w.alloc (.cells #[] 79)).ownsRow w.heap.size 79 4 (.slice (some ⟨w.heap.size, 0, none⟩) 0 0) 0 [] := World.ownsRow_made w #[] 0 (Nat.le_refl _) (Nat.zero_le _) rfl
  have k0 : Kept w (w.alloc (.cells #[] 79)) := (Same.refl _ w).alloc _
  cases oa with
  | none =>
    obtain ⟨h0, rfl⟩ := hnil rfl
    obtain rfl : l = [] := List.eq_nil_of_length_eq_zero h0
    exact ⟨_, _, run_append_owned_none (P := Try.prog) (w := w.alloc (.cells #[] 79)) w.heap.size 22 ty 79 i0 4 Try.underlying22 hi0 _ 0 _ hown, hown, k0⟩
  | some ad =>
    obtain ⟨v', w', hr, r1, r2, _, _⟩ := run_append_own_at (P := Try.prog) (w := w.alloc (.cells #[] 79)) w.heap.size 22 ty 79 i0 _ 4 48 Try.underlying22 hi0 hz0 hz1 hz2 rfl (by decide) _ 0 _ hown ad l.length c (opc l) (length_opc l)
      (fun j u hu => by
        have hj := (List.getElem?_eq_some_iff.1 hu).1
        rw [length_opc] at hj
        obtain ⟨o, ho⟩ : ∃ o, l[j / 4]? = some o := ⟨_, List.getElem?_eq_getElem (by omega)⟩
        obtain ⟨b', off', e, hb', c0, c1, c2, c3⟩ := (OpsAt.on hl k0) _ _ ho
        cases e
        rw [Addr.add_lit]
        obtain ⟨g0, g1, g2, g3⟩ := opc_get ho
        have h4 : j % 4 = 0 ∨ j % 4 = 1 ∨ j % 4 = 2 ∨ j % 4 = 3 := by omega
        rcases h4 with h4 | h4 | h4 | h4
        · rw [show j = j / 4 * 4 by omega] at hu ⊢
          rw [g0] at hu
          cases hu
          simpa [Nat.add_assoc] using c0
        · rw [show j = j / 4 * 4 + 1 by omega] at hu ⊢
          rw [g1] at hu
          cases hu
          simpa [Nat.add_assoc] using c1
        · rw [show j = j / 4 * 4 + 2 by omega] at hu ⊢
          rw [g2] at hu
          cases hu
          simpa [Nat.add_assoc] using c2
        · rw [show j = j / 4 * 4 + 3 by omega] at hu ⊢
          rw [g3] at hu
          cases hu
          simpa [Nat.add_assoc] using c3) (opc_one _) (by unfold maxLen; omega) (by omega) (by simp [World.size_alloc])
    rw [Nat.zero_add, List.nil_append] at r1
    refine ⟨v', w', hr, r1, k0.trans (Same.of_grown r2 (fun k e => e)) (fun i hi e => ?_)⟩
    simp only [Value.ownBlock, Option.some.injEq] at e
    omega
set_option maxRecDepth 100000 in
set_option maxHeartbeats 1600000 in
theorem copy_any (w : World) (t : TxM) (a : Option Addr) (c : Nat) (h : ArgT w t a c) : Calls Try.prog 11 #[txV t (.slice a t.ops.length c)] w fun e w' => ∃ a' c', e = .returned (txV t (.slice a' t.ops.length c')) ∧ OwnO w.heap.size w' (.slice a' t.ops.length c') t.ops ∧ Kept w w' := by
  have HR : Hid (∀ W, Kept w W → _) := fun W (k : Kept w W) => app_ops_lit (c := c) (h.on k).ops h.nil (by have := h.le; omega)
  obtain ⟨n, en⟩ : ∃ n, n = t.ops.length := ⟨_, rfl⟩
  have HR2 : Hid _ := HR.out ((w.alloc (.cells #[.int .i64 t.f0, .int .i64 t.f1, .int .i64 t.f2, .int .i64 t.f3, .int .i64 t.f4, .int .i64 t.f5, .int .i64 t.f6, .slice a n c] 24 (0, 0))).alloc (.cells #[.int .i64 0, .int .i64 0, .int .i64 0, .int .i64 0, .int .i64 0, .int .i64 0, .int .i64 0, .slice none 0 0] 24 (0, 0))) (((Same.refl _ w).alloc _).alloc _)
  have EN : Hid _ := en
  rw [World.size_alloc, World.size_alloc, ← en] at HR2
  unfold txV
  rw [← en]
  clear h en HR
  go_enter Try.func11, Try.ntmps11
  go_wp2_with (at_builtin; refine wpList_app rfl (.tmp 3) (.tmp 5) 22 22 rfl _ _ rfl rfl _ HR2.out ?_; rintro v2 w2 ⟨o2, k2⟩; obtain ⟨b1, b2⟩ := Same.two k2 (fun h => h) (fun h => h); obtain ⟨⟨c0, c1, c2, c3, c4, c5, c6, c7⟩, f0, f1, f2, f3, f4, f5, f6, f7⟩ := tx_obj b1; obtain ⟨⟨d0, d1, d2, d3, d4, d5, d6, d7⟩, g0, g1, g2, g3, g4, g5, g6, g7⟩ := tx_obj b2; obtain ⟨a2, p2, e2, -⟩ := OwnO.ops o2; rw [← EN.out] at e2; subst e2; have O2 : Hid _ := o2; have K2 : Hid _ := k2; have B2 : Hid _ := b2; clear o2 k2 b1 b2)
  have s3 : Same (fun k => k = w.heap.size ∨ k = w.heap.size + 1) w2 (put8 (w2.setCell ⟨w.heap.size, 7, none⟩ (.slice a2 n p2)) (w.heap.size + 1) (.int .i64 t.f0) (.int .i64 t.f1) (.int .i64 t.f2) (.int .i64 t.f3) (.int .i64 t.f4) (.int .i64 t.f5) (.int .i64 t.f6) (.slice a2 n p2)) :=
    (Same.setCell (S := fun k => k = w.heap.size ∨ k = w.heap.size + 1) (Same.refl _ w2) _ (.inr (.inl rfl)) _).trans (put8_same _ _ _ _ _ _ _ _ _ _) (fun i hi e => .inr e)
  refine bodyPost_ret (results_c (a := 2) (t := 24) rfl rfl (loadVar_tx (put8_at (w := w2.setCell ⟨w.heap.size, 7, none⟩ (.slice a2 n p2)) ((Same.block_set (fun e => by omega)).symm.trans B2.out) _ _ _ _ _ _ _ _))) rfl ⟨_, _, rfl, ?_, ?_⟩
  · exact OwnO.lower (OwnO.kept O2.out s3 (fun k hk e => by have := (OwnO.block O2.out hk).1; omega)) (by omega)
  · exact ((((Same.refl (fun _ => False) w).alloc _).alloc _).trans' K2.out).trans s3 (fun i hi e => by omega)
end Go.Proofs.Ytbjmdpfoeeadeaa
