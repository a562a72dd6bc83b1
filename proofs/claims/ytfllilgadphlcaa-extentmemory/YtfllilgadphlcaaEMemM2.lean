/- What is proved: rows of extents that are stored into and appended to; no condition. -/
import Derived.Test.YtfllilgadphlcaaEMemM
namespace Go.Proofs.Ytfllilgadphlcaa
open Go.RowKit

theorem exts_two (w : World) (a b c d : Int) (t : TypeId) : ExtsAt (w.alloc (.cells #[.int .i64 a, .int .i64 b, .int .i64 c, .int .i64 d] t (0, 0))) (some ⟨w.heap.size, 0, none⟩) [⟨a, b⟩, ⟨c, d⟩] := fun i e he => by
  have hi : i = 0 ∨ i = 1 := by have := (List.getElem?_eq_some_iff.1 he).1; simp at this; omega
  rcases hi with rfl | rfl
  · simp at he
    subst he
    exact ⟨w.heap.size, 0, rfl, by simp, (cell_of (heap_new _ _) 0).trans rfl, (cell_of (heap_new _ _) 1).trans rfl⟩
  · simp at he
    subst he
    exact ⟨w.heap.size, 0, rfl, by simp, (cell_of (heap_new _ _) 2).trans rfl, (cell_of (heap_new _ _) 3).trans rfl⟩
/-- What an append of V onto the row A in block g leaves. -/
def AppP (w : World) (g : Nat) (A V : List Ex) (v : Value) (w' : World) : Prop :=
  ∃ gc cc, v = .slice (some ⟨gc, 0, none⟩) (A.length + V.length) cc ∧ ExtsAt w' (some ⟨gc, 0, none⟩) (A ++ V) ∧ ExtsAt w' (some ⟨g, 0, none⟩) A ∧ Same (fun k => k = g) w w' ∧ (gc = g ∨ w.heap.size ≤ gc)
theorem app_any {w : World} {g c : Nat} {A V : List Ex} {b off vc : Nat} (hR : Row w g c A) (hV : ExtsAt w (some ⟨b, off, none⟩) V) (hs : A.length + V.length ≤ 1000000) (ty : TypeId) :
    ∃ v' w', (Builtin.append_ #[37, 37] ty #[.slice (some ⟨g, 0, none⟩) A.length c, .slice (some ⟨b, off, none⟩) V.length vc]).run Try.prog w = .ok v' w' ∧ AppP w g A V v' w' := by
  by_cases hr : A.length + V.length ≤ c
  · obtain ⟨w', r1, r2, r3⟩ := app_row (X := A) (R := []) (vc := vc) (by rw [List.append_nil]; exact hR) rfl hV hr ty
    simp only [List.drop_nil, List.append_nil] at r2
    exact ⟨_, w', r1, g, c, rfl, r2.exts, r2.prefix.exts, r3, .inl rfl⟩
  · obtain ⟨w', c', r1, r2, r3⟩ := app_grow (c := c) (vc := vc) rfl hR.exts hV (by omega) hs ty
    exact ⟨_, w', r1, _, c', rfl, r2.exts, hR.exts.kept r3 (fun _ _ h => h), Kept.to r3 _, .inr (Nat.le_refl _)⟩
end Go.Proofs.Ytfllilgadphlcaa
