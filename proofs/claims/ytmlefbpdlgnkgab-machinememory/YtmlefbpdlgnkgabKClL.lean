/- What is proved: the law MachineClock answers true, and all that was there stays as it was; the script lies in memory. -/
import Derived.Test.YtmlefbpdlgnkgabKClk
import Derived.Test.YtmlefbpdlgnkgabKSrM
namespace Go.Proofs.Ytmlefbpdlgnkgab
open Go.RowKit

theorem StepsAt.cells {w : World} {ad : Addr} {l : List Stp} (h : StepsAt w (some ad) l) : ∀ j u, (stc l)[j]? = some u → w.cell? (ad.add j) = some u := fun j u hu => by
  have hj : j < l.length * 5 := by rw [← length_stc]; exact (List.getElem?_eq_some_iff.1 hu).1
  have hi : j / 5 < l.length := by omega
  obtain ⟨b, off, e, hb, c0, c1, c2, c3, c4⟩ := h (j / 5) _ (List.getElem?_eq_getElem hi)
  have hg := stc_get (List.getElem?_eq_getElem hi) (j % 5) (by omega)
  rw [show j / 5 * 5 + j % 5 = j by omega, hu] at hg
  cases e
  rw [add_at]
  have hm : j % 5 = 0 ∨ j % 5 = 1 ∨ j % 5 = 2 ∨ j % 5 = 3 ∨ j % 5 = 4 := by omega
  rcases hm with h | h | h | h | h <;> rw [h] at hg <;> cases hg
  · rw [show off + j = off + j / 5 * 5 by omega]; exact c0
  · rw [show off + j = off + j / 5 * 5 + 1 by omega]; exact c1
  · rw [show off + j = off + j / 5 * 5 + 2 by omega]; exact c2
  · rw [show off + j = off + j / 5 * 5 + 3 by omega]; exact c3
  · rw [show off + j = off + j / 5 * 5 + 4 by omega]; exact c4
/-- The copy that the law hands in. -/
theorem copy_steps {w : World} {a : Option Addr} {l : List Stp} {cap : Nat} (h : StepsAt w a l) (hc : a = none → cap = 0) (hn : l.length ≤ 2513169434918) (ty : TypeId) :
    ∃ v' w', (Builtin.append_ #[22, 22] ty #[.slice (some ⟨w.heap.size, 0, none⟩) 0 0, .slice a l.length cap]).run Try.prog (w.alloc (.cells #[] 33)) = .ok v' w' ∧ (∃ a' c', v' = .slice a' l.length c' ∧ StepsAt w' a' l) ∧ Kept w w' := by
  have k0 : Kept w (w.alloc (.cells #[] 33 (0, 0))) := (Same.refl _ w).alloc _
  have hmade : (w.alloc (.cells #[] 33 (0, 0))).ownsRow w.heap.size 33 5 (.slice (some ⟨w.heap.size, 0, none⟩) 0 0) 0 [] := World.ownsRow_made w #[] 0 (Nat.le_refl _) (Nat.zero_le _) (by simp)
  cases a with
  | none =>
    have hl : l = [] := by
      cases l with
      | nil => rfl
      | cons s r =>
        obtain ⟨b, off, e, -⟩ := h 0 s rfl
        cases e
    subst hl
    rw [hc rfl]
    obtain ⟨i0, hi0, -, -, -⟩ := info_parts Try.infoStep
    exact ⟨_, _, run_append_owned_none (P := Try.prog) (w := w.alloc (.cells #[] 33 (0, 0))) w.heap.size 22 ty 33 i0 5 Try.underlying22 hi0 _ 0 [] hmade, ⟨_, _, rfl, fun i s hs => by simp at hs⟩, k0⟩
  | some ad =>
    obtain ⟨v', w', hr, r1, r2, -, -⟩ := app_wide (P := Try.prog) (t := 22) (ty := ty) (c := cap) (m := l.length) (base := w.heap.size) Try.underlying22 Try.infoStep rfl (by decide) hmade (length_stc l) (h.on k0).cells (stc_one _) (by unfold maxLen; omega) (by omega) (by rw [World.size_alloc]; omega)
    rw [List.nil_append, Nat.zero_add] at r1
    obtain ⟨a', c', rfl, -⟩ := row_shape r1
    refine ⟨_, w', hr, ⟨a', c', rfl, OwnS.steps (m := l.length) r1⟩, ((Kept.to k0 _).trans' r2).mono fun k hk e => ?_⟩
    simp only [Value.ownBlock, Option.some.injEq] at e
    omega
set_option maxRecDepth 100000 in
set_option maxHeartbeats 800000 in
theorem emitBad (w : World) (n fl : Int) (v : Value) (h : (n < 1 ∨ 64 < n) ∨ (fl < 0 ∨ 4 < fl)) {a : Option Addr} {m c : Nat} (ev : v = .slice a m c) : Calls Try.prog 13 #[.int .i64 n, .int .i64 fl, v] w fun e w' => (∃ cd : Int, (cd = 150 ∨ cd = 158) ∧ e = .returned (.tuple #[.slice none 0 0, .int .i64 cd])) ∧ w' = w := by
  have HN : Hid _ := newBad w n fl h
  obtain ⟨cd, ecd⟩ : ∃ cd : Int, cd = if n < 1 ∨ 64 < n then 150 else 158 := ⟨_, rfl⟩
  rw [← ecd] at HN
  have hcd : cd = 150 ∨ cd = 158 := by rw [ecd]; split; exact .inl rfl; exact .inr rfl
  subst ev
  clear h ecd
  rcases hcd with rfl | rfl
  all_goals
    go_enter Try.func13, Try.ntmps13
    go_wp2_with fail
    refine Calls.mono HN.out ?_
    rintro e w1 ⟨rfl, h1⟩
    subst w1
    go_wp2_with fail
    refine bodyPost_ret (results_tmp2 rfl _ _ _) rfl ?_
    first
    | exact ⟨⟨150, .inl rfl, rfl⟩, rfl⟩
    | exact ⟨⟨158, .inr rfl, rfl⟩, rfl⟩
/-- A row of N numbers. -/
def IntR (w : World) (g N : Nat) (f : Nat → Int) : Prop := ∃ arr, w.heap[g]? = some (.cells arr 3 (0, 0)) ∧ ∀ s, s < N → arr[s]? = some (.int .i64 (f s))
theorem IntR.cell {w : World} {g N : Nat} {f : Nat → Int} (h : IntR w g N f) {s : Nat} (hs : s < N) : w.cell? ⟨g, s, none⟩ = some (.int .i64 (f s)) ∧ w.frozen? ⟨g, s, none⟩ = false ∧ g < w.heap.size := by
  obtain ⟨arr, h1, h2⟩ := h
  exact ⟨(cell_of h1 s).trans (h2 s hs), frozen_of h1 s, lt_of_heap h1⟩
theorem IntR.put {w : World} {g N : Nat} {f : Nat → Int} (h : IntR w g N f) {s : Nat} (hs : s < N) (x : Int) : IntR (w.setCell ⟨g, s, none⟩ (.int .i64 x)) g N (fun q => if q = s then x else f q) := by
  obtain ⟨arr, h1, h2⟩ := h
  refine ⟨_, setCell_at h1 s _, fun q hq => ?_⟩
  have hsz : s < arr.size := (Array.getElem?_eq_some_iff.1 (h2 s hs)).1
  show _ = some (Value.int .i64 (if q = s then x else f q))
  by_cases e : q = s
  · subst e
    rw [Array.getElem?_setIfInBounds_self_of_lt hsz, if_pos rfl]
  · rw [Array.getElem?_setIfInBounds_ne (fun h => e h.symm), if_neg e]
    exact h2 q hq
theorem IntR.kept {w w' : World} {g N : Nat} {f : Nat → Int} (h : IntR w g N f) {S : Nat → Prop} (hs : Same S w w') (hg : ¬ S g) : IntR w' g N f := by
  obtain ⟨arr, h1, h2⟩ := h
  exact ⟨arr, (hs.block g (lt_of_heap h1) hg).trans h1, h2⟩
theorem make_ints (w : World) (n : Nat) (hn : n ≤ 64) : (Instr.makeSlice 70 (.int .i64 (n : Int)) (.int .i64 (n : Int))).run Try.prog w = .ok (.slice (some ⟨w.heap.size, 0, none⟩) n n) (w.alloc (.cells (madeCells #[.int .i64 0] n) 3)) := by
  obtain ⟨i0, hi0, hz0, hz1, hz2⟩ := info_parts Try.infoInt
  have hr := run_make (P := Try.prog) w 70 3 i0 _ Try.underlying70 hi0 hz0 .i64 .i64 n n (by omega) (by omega) (by rw [hz2]; omega) (by omega)
  have hc : (Value.int .i64 0).cells = #[.int .i64 0] := by rfl
  simp only [Int.toNat_natCast, hz1, hc, Nat.mul_one] at hr
  exact hr
theorem made_ints (n : Nat) : ∀ s, s < n → (madeCells #[Value.int .i64 0] n)[s]? = some (.int .i64 0) := fun s hs => by
  unfold madeCells
  rw [Array.getElem?_map, Array.getElem?_range, if_pos (by omega)]
  simp only [Option.map_some]
  rw [show s % (#[Value.int .i64 0] : Array Value).size = 0 by show s % 1 = 0; omega]
  rfl
end Go.Proofs.Ytmlefbpdlgnkgab
