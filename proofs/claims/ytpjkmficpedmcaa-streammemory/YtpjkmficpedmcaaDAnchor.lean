/- What is proved: append onto an empty literal is a clone, whatever else was made beside it; the anchor of the laws answers true and leaves all that was there as it was; no condition. -/
import Derived.Test.YtpjkmficpedmcaaDMake
import Derived.Test.YtpjkmficpedmcaaDTell
namespace Go.Proofs.Ytpjkmficpedmcaa
open Go.RowKit

theorem run_append_nothing {t e : TypeId} (hu : Try.prog.underlying t = some (.slice e)) {i : TypeInfo} (hi : Try.prog.info? e = some i) (w : World) (b : Addr) (oa : Option Addr) (c : Nat) (hnil : oa = none → c = 0) (ty : TypeId) :
    (Builtin.append_ #[t, t] ty #[.slice (some b) 0 0, .slice oa 0 c]).run Try.prog w = .ok (.slice (some b) 0 0) w := by
  cases oa with
  | none =>
    obtain rfl := hnil rfl
    simp [Builtin.append_, run_underlying hu, sizeOf, typeInfo, hi, Builtin.lenOf, Builtin.firstCells, storeCells]
  | some ad =>
    have hf := run_firstCells_some (P := Try.prog) (w := w) i.size 0 ad 0 c [] (by simp) (by simp)
    simp [Builtin.append_, run_underlying hu, sizeOf, typeInfo, hi, Builtin.lenOf, hf, storeCells]

theorem cell_new (w : World) (arr : Array Value) (e : TypeId) (o : Nat) : (w.drew.alloc (.cells arr e)).cell? ⟨w.heap.size, o, none⟩ = arr[o]? := cell_of (heap_new w.drew (.cells arr e)) o

theorem clone_at {w : World} {l : List Int} {oa : Option Addr} {c : Nat} (b : Addr) (hl : BytesAt w oa l) (hnil : oa = none → l.length = 0 ∧ c = 0) (hb : l.length ≤ 140737488355328) (ty : TypeId) :
    ∃ v' w', (Builtin.append_ #[22, 22] ty #[.slice (some b) 0 0, .slice oa l.length c]).run Try.prog w = .ok v' w' ∧ CloneB w l v' w' := by
  obtain ⟨i0, hi0, hz0, hz1, hz2⟩ := info_parts Try.infoByte
  by_cases h0 : l.length = 0
  · obtain rfl : l = [] := List.eq_nil_of_length_eq_zero h0
    exact ⟨_, _, run_append_nothing Try.underlying22 hi0 w b oa c (fun e => (hnil e).2) ty, some b, 0, rfl, BytesAt.nil _ _, Nat.le_refl _, (fun e => by cases e), fun k hk => absurd hk.1 (by simp), Same.refl _ _⟩
  · obtain ⟨ab, off, rfl, -, -⟩ := hl 0 (l[0]'(by omega)) (List.getElem?_eq_getElem _)
    have hr := run_append_grow (P := Try.prog) (w := w) 22 ty 5 i0 _ Try.underlying22 hi0 hz0 b 0 0 [] (by simp) (by simp) ⟨ab, off, none⟩ l.length c (byt l) (by rw [length_byt, hz1, Nat.mul_one])
      (fun j u hu => by
        rw [byt_get] at hu
        obtain ⟨x, hx, rfl⟩ := Option.map_eq_some_iff.1 hu
        obtain ⟨b', off', e, _, hc⟩ := hl _ _ hx
        cases e
        rw [Addr.add_lit]
        exact hc) (by omega) (by omega) (by rw [hz2]; exact growslice_fits (by omega) (by omega))
    have hge := grownCap_ge w (0 + l.length) 0 5
    rw [Nat.zero_add] at hr hge
    refine ⟨_, _, hr, _, _, rfl, fun i x hx => ⟨w.heap.size, 0, rfl, by simp, ?_⟩, hge, (fun e => by cases e), (fun k hk => by obtain ⟨_, off, e⟩ := hk; cases e; exact Nat.le_refl _), ((Same.refl _ w).drew).alloc _⟩
    have hi := (List.getElem?_eq_some_iff.1 hx).1
    rw [cell_new, Nat.zero_add]
    have hg := byt_get l i
    rw [hx] at hg
    rw [Array.getElem?_append_left (by simp [length_byt]; exact hi)]
    simpa using hg
theorem clone_atF {e t : TypeId} (hu : Try.prog.underlying t = some (.slice e)) (hi : (Try.prog.info? e).map (fun i => (i.zero, i.size, i.bytes)) = some (some (.agg #[.int .i64 0, .int .i64 0, .int .i64 0, .int .i64 0]), 4, 32))
    {w : World} {l : List Fl} {oa : Option Addr} {c : Nat} (b : Addr) (hl : FaultsAt w oa l) (hnil : oa = none → l.length = 0 ∧ c = 0) (hb : l.length * 32 ≤ 140737488355328) (ty : TypeId) :
    ∃ v' w', (Builtin.append_ #[t, t] ty #[.slice (some b) 0 0, .slice oa l.length c]).run Try.prog w = .ok v' w' ∧ CloneF w l v' w' := by
  obtain ⟨i0, hi0, hz0, hz1, hz2⟩ := info_parts hi
  by_cases h0 : l.length = 0
  · obtain rfl : l = [] := List.eq_nil_of_length_eq_zero h0
    exact ⟨_, _, run_append_nothing hu hi0 w b oa c (fun e => (hnil e).2) ty, some b, 0, rfl, FaultsAt.nil _ _, (fun e => by cases e), fun k hk => absurd hk.1 (by simp), Same.refl _ _⟩
  · obtain ⟨ab, off, rfl, -, -⟩ := hl 0 (l[0]'(by omega)) (List.getElem?_eq_getElem _)
    have hr := run_append_grow (P := Try.prog) (w := w) t ty e i0 _ hu hi0 hz0 b 0 0 [] (by simp) (by simp) ⟨ab, off, none⟩ l.length c (fcs l) (by rw [length_fcs, hz1])
      (fun j u hu => by
        have hj := (List.getElem?_eq_some_iff.1 hu).1
        rw [length_fcs] at hj
        obtain ⟨f, hf⟩ : ∃ f, l[j / 4]? = some f := ⟨_, List.getElem?_eq_getElem (by omega)⟩
        obtain ⟨b', off', e, _, c0, c1, c2, c3⟩ := hl _ _ hf
        obtain ⟨g0, g1, g2, g3⟩ := fcs_get hf
        cases e
        rw [Addr.add_lit]
        have hm : j % 4 = 0 ∨ j % 4 = 1 ∨ j % 4 = 2 ∨ j % 4 = 3 := by omega
        rcases hm with hm | hm | hm | hm
        · have ej : j = j / 4 * 4 := by omega
          rw [ej] at hu ⊢
          exact c0.trans (g0.symm.trans hu)
        · have ej : j = j / 4 * 4 + 1 := by omega
          rw [ej] at hu ⊢
          exact c1.trans (g1.symm.trans hu)
        · have ej : j = j / 4 * 4 + 2 := by omega
          rw [ej] at hu ⊢
          exact c2.trans (g2.symm.trans hu)
        · have ej : j = j / 4 * 4 + 3 := by omega
          rw [ej] at hu ⊢
          exact c3.trans (g3.symm.trans hu)) (by omega) (by omega) (by rw [hz2]; exact growslice_fits (by omega) (by omega))
    rw [Nat.zero_add] at hr
    refine ⟨_, _, hr, _, _, rfl, fun i x hx => ⟨w.heap.size, 0, rfl, by simp, ?_⟩, (fun e => by cases e), (fun k hk => by obtain ⟨_, off, e⟩ := hk; cases e; exact Nat.le_refl _), ((Same.refl _ w).drew).alloc _⟩
    have hi := (List.getElem?_eq_some_iff.1 hx).1
    obtain ⟨g0, g1, g2, g3⟩ := fcs_get hx
    have hget : ∀ o, o < l.length * 4 → ∀ v, (fcs l)[o]? = some v → (w.drew.alloc (.cells (([] : List Value).toArray ++ (fcs l).toArray ++ Builtin.zeroCells (Value.agg #[.int .i64 0, .int .i64 0, .int .i64 0, .int .i64 0]).cells (grownCap w l.length 0 e - l.length)) e)).cell? ⟨w.heap.size, 0 + o, none⟩ = some v := fun o ho v hv => by
      rw [cell_new, Nat.zero_add, Array.getElem?_append_left (by simp [length_fcs]; exact ho)]
      simpa using hv
    have a0 := hget _ (by omega) _ g0
    have a1 := hget _ (by omega) _ g1
    have a2 := hget _ (by omega) _ g2
    have a3 := hget _ (by omega) _ g3
    simp only [Nat.zero_add] at a0 a1 a2 a3 ⊢
    exact ⟨a0, a1, a2, a3⟩

def mA : M := M.made 16 1 [9] [] []

end Go.Proofs.Ytpjkmficpedmcaa
