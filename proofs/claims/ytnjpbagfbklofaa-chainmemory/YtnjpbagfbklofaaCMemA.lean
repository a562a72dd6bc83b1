/- What is proved: rows of one's own that are marked, and that are grown by two; no condition but the machine's bounds. -/
import Derived.Test.YtnjpbagfbklofaaCMemM
namespace Go.Proofs.Ytnjpbagfbklofaa
open Go.RowKit
open Go.Proofs (encStr)

theorem row_some {w : World} {base : Nat} {e : TypeId} {sz : Nat} {v : Value} {n : Nat} {xs : List Value} (h : w.ownsRow base e sz v n xs) (hn : 0 < n) : ∃ g cap, v = .slice (some ⟨g, 0, none⟩) n cap ∧ base ≤ g ∧ g < w.heap.size := by
  rcases h.2 with ⟨_, h0⟩ | ⟨g, cap, cur, rfl, hb, hg, -⟩
  · omega
  · exact ⟨g, cap, rfl, hb, lt_of_heap hg⟩
theorem row_cell {w : World} {base : Nat} {e : TypeId} {sz g n cap : Nat} {xs : List Value} (h : w.ownsRow base e sz (.slice (some ⟨g, 0, none⟩) n cap) n xs) {j : Nat} (hj : j < n * sz) : ∃ u, xs[j]? = some u ∧ w.cell? ⟨g, j, none⟩ = some u := by
  have h1 : j < xs.length := by rw [h.1]; exact hj
  exact ⟨_, List.getElem?_eq_getElem h1, (h.cellAt j hj).trans (List.getElem?_eq_getElem h1)⟩
theorem row_kept {S : Nat → Prop} {base : Nat} {w w' : World} {e : TypeId} {sz : Nat} {v : Value} {n : Nat} {xs : List Value} (h : w.ownsRow base e sz v n xs) (hs : Same S w w') (hn : ∀ k, v.ownBlock = some k → ¬ S k) : w'.ownsRow base e sz v n xs := by
  refine ⟨h.1, ?_⟩
  rcases h.2 with h2 | ⟨g, cap, cur, rfl, hb, hg, h1, h2, h3, h4⟩
  · exact .inl h2
  · exact .inr ⟨g, cap, cur, rfl, hb, (hs.block g (lt_of_heap hg) (hn g (by simp [Value.ownBlock]))).trans hg, h1, h2, h3, h4⟩
theorem row_put4 {w : World} {base : Nat} {e : TypeId} {sz g n cap : Nat} {xs : List Value} (h : w.ownsRow base e sz (.slice (some ⟨g, 0, none⟩) n cap) n xs) (o : Nat) (a b c d : Value) :
    ((((w.setCell ⟨g, o, none⟩ a).setCell ⟨g, o + 1, none⟩ b).setCell ⟨g, o + 2, none⟩ c).setCell ⟨g, o + 3, none⟩ d).ownsRow base e sz (.slice (some ⟨g, 0, none⟩) n cap) n ((((xs.set o a).set (o + 1) b).set (o + 2) c).set (o + 3) d) :=
  (World.ownsRow.stored (World.ownsRow.stored (World.ownsRow.stored (World.ownsRow.stored h o a).1 (o + 1) b).1 (o + 2) c).1 (o + 3) d).1
theorem same_put4 {w : World} {g : Nat} (o : Nat) (a b c d : Value) : Same (fun k => k = g) w ((((w.setCell ⟨g, o, none⟩ a).setCell ⟨g, o + 1, none⟩ b).setCell ⟨g, o + 2, none⟩ c).setCell ⟨g, o + 3, none⟩ d) :=
  Same.setCell (Same.setCell (Same.setCell (Same.setCell (S := fun k => k = g) (Same.refl _ w) ⟨g, o, none⟩ (.inr rfl) a) ⟨g, o + 1, none⟩ (.inr rfl) b) ⟨g, o + 2, none⟩ (.inr rfl) c) ⟨g, o + 3, none⟩ (.inr rfl) d
theorem set4_other {xs : List Value} {o i : Nat} (h : i < o) (a b c d : Value) : ((((xs.set o a).set (o + 1) b).set (o + 2) c).set (o + 3) d)[i]? = xs[i]? := by
  rw [List.getElem?_set_ne (by omega), List.getElem?_set_ne (by omega), List.getElem?_set_ne (by omega), List.getElem?_set_ne (by omega)]
theorem set4_one {xs : List Value} {o : Nat} (h : o + 1 < xs.length) (a b c d : Value) : ((((xs.set o a).set (o + 1) b).set (o + 2) c).set (o + 3) d)[o + 1]? = some b := by
  rw [List.getElem?_set_ne (by omega), List.getElem?_set_ne (by omega), List.getElem?_set_self (by rw [List.length_set]; exact h)]
abbrev two6 : List Value := [.int .i64 0, .int .i64 (-6), .bool false, .string ⟨#[]⟩, .int .i64 0, .int .i64 (-6), .bool false, .string ⟨#[]⟩]
/-- Two versions more behind a row of one's own. -/
theorem app_two6 {w : World} {base g ga n cap : Nat} {xs : List Value} (hown : w.ownsRow base 31 4 (.slice (some ⟨ga, 0, none⟩) n cap) n xs) (hn : n ≤ 60) (hg : w.heap[g]? = some (.cells #[.int .i64 0, .int .i64 (-6), .bool false, .string ⟨#[]⟩, .int .i64 0, .int .i64 (-6), .bool false, .string ⟨#[]⟩] 31 (0, 0))) (hbase : base ≤ w.heap.size) (ty : TypeId) :
    ∃ v' w', (Builtin.append_ #[41, 41] ty #[.slice (some ⟨ga, 0, none⟩) n cap, .slice (some ⟨g, 0, none⟩) 2 2]).run Try.prog w = .ok v' w' ∧ ∃ g' c', v' = .slice (some ⟨g', 0, none⟩) (n + 2) c' ∧ w'.ownsRow base 31 4 v' (n + 2) (xs ++ two6) ∧ Same (fun k => k = ga) w w' ∧ (g' = ga ∨ w.heap.size ≤ g') := by
  obtain ⟨v', w', hr, r1, r2, r3, -⟩ := app_wide (P := Try.prog) (t := 41) (ty := ty) (c := 2) (m := 2) (a := ⟨g, 0, none⟩) (news := two6) Try.underlying41 Try.infoVer rfl (by decide) hown rfl
    (fun j u hu => by
      rw [Addr.add_lit, Nat.zero_add, cell_of hg]
      simpa using hu) (fun u hu => by
      simp only [two6, List.mem_cons, List.not_mem_nil, or_false] at hu
      rcases hu with rfl | rfl | rfl | rfl | rfl | rfl | rfl | rfl <;> rfl) (by unfold maxLen; omega) (by omega) hbase
  obtain ⟨g', c', rfl, -, -⟩ := row_some r1 (by omega)
  refine ⟨_, w', hr, g', c', rfl, r1, r2.mono (fun k _ hk => ?_), ?_⟩
  · simp only [Value.ownBlock, Option.some.injEq] at hk
    exact hk.symm
  · rcases r3 g' rfl with h | h
    · simp only [Value.ownBlock, Option.some.injEq] at h
      exact .inl h.symm
    · exact .inr h
abbrev two33 : List Value := [.string ⟨#[33]⟩, .string ⟨#[33]⟩]
/-- Two strings more behind a row of one's own. -/
theorem app_two33 {w : World} {base g ga n cap : Nat} {xs : List Value} (hown : w.ownsRow base 9 1 (.slice (some ⟨ga, 0, none⟩) n cap) n xs) (hn : n ≤ 60) (hg : w.heap[g]? = some (.cells #[.string ⟨#[33]⟩, .string ⟨#[33]⟩] 9 (0, 0))) (hbase : base ≤ w.heap.size) (ty : TypeId) :
    ∃ v' w', (Builtin.append_ #[35, 35] ty #[.slice (some ⟨ga, 0, none⟩) n cap, .slice (some ⟨g, 0, none⟩) 2 2]).run Try.prog w = .ok v' w' ∧ ∃ g' c', v' = .slice (some ⟨g', 0, none⟩) (n + 2) c' ∧ w'.ownsRow base 9 1 v' (n + 2) (xs ++ two33) ∧ Same (fun k => k = ga) w w' := by
  obtain ⟨v', w', hr, r1, r2, -, -⟩ := app_wide (P := Try.prog) (t := 35) (ty := ty) (c := 2) (m := 2) (a := ⟨g, 0, none⟩) (news := two33) Try.underlying35 Try.infoStr rfl (by decide) hown rfl
    (fun j u hu => by
      rw [Addr.add_lit, Nat.zero_add, cell_of hg]
      simpa using hu) (fun u hu => by
      simp only [two33, List.mem_cons, List.not_mem_nil, or_false] at hu
      rcases hu with rfl | rfl <;> rfl) (by unfold maxLen; omega) (by omega) hbase
  obtain ⟨g', c', rfl, -, -⟩ := row_some r1 (by omega)
  refine ⟨_, w', hr, g', c', rfl, r1, r2.mono (fun k _ hk => ?_)⟩
  simp only [Value.ownBlock, Option.some.injEq] at hk
  exact hk.symm
end Go.Proofs.Ytnjpbagfbklofaa
