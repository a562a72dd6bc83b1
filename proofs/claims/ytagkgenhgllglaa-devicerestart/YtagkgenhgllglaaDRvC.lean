/- What is proved: the document's device: ReadScratch, ReadInput and WriteScratch answer as the plain device does, and leave it; the device lies in memory. -/
import Derived.Test.YtagkgenhgllglaaDRvB
namespace Go.Proofs.Ytagkgenhgllglaa
open Go.RowKit

/-- The post of a read of the document's device. -/
def RRPost (w : World) (p : RP) (Q : List Rb) (x : Int × List Int × M) (e : Ending) (w' : World) : Prop :=
  ∃ a cap v Q', e = .returned (.tuple #[.slice a x.2.1.length cap, .int .i64 x.1]) ∧ BytesAt w' a x.2.1 ∧ (∀ k, InB a x.2.1.length k → w.heap.size ≤ k) ∧ Rv w' x.2.2 { p with sv := v } Q' ∧ Same (ROwn p) w w' ∧ RNew w p v ∧ Q'.length ≤ Q.length + 1
theorem RRPost.none {w w' : World} {p : RP} {Q : List Rb} {m : M} {c : Int} {v : Value} {Q' : List Rb} (h : Rv w' m { p with sv := v } Q') (hs : Same (ROwn p) w w') (hn : RNew w p v) (hl : Q'.length ≤ Q.length + 1) : RRPost w p Q (c, [], m) (.returned (.tuple #[.slice none 0 0, .int .i64 c])) w' :=
  ⟨.none, 0, v, Q', rfl, BytesAt.nil _ _, fun k hk => absurd hk.1 (by simp), h, hs, hn, hl⟩
theorem RNew.same (w : World) (p : RP) : RNew w p p.sv := .inl rfl

theorem cut_snoc {B : Nat} {l : List Int} {b i : Nat} {x : Int} (hb : b * B ≤ i) (_hi : i < (b + 1) * B) (hx : l[i]? = some x) : (l.drop (b * B)).take (i + 1 - b * B) = (l.drop (b * B)).take (i - b * B) ++ [x] := by
  have e : i + 1 - b * B = i - b * B + 1 := by omega
  have hg : (l.drop (b * B))[i - b * B]? = some x := by rw [List.getElem?_drop, show b * B + (i - b * B) = i by omega]; exact hx
  rw [e, List.take_add_one, hg]
  rfl

/-- The document's device stays beside what is appended: a list of bytes of one's own. -/
theorem app_byte {w : World} {base : Nat} {v : Value} {xs : List Int} {x : Int} (hown : w.ownsRow base 5 1 v xs.length (byt xs)) (hn : xs.length ≤ 4194304) (hb : base ≤ w.heap.size) (ty : TypeId) :
    ∃ v' w', (Builtin.append_ #[22, 22] ty #[v, .slice (some ⟨w.heap.size, 0, none⟩) 1 1]).run Try.prog (w.alloc (.cells #[.int .u8 x] 5 (0, 0))) = .ok v' w' ∧ (w'.ownsRow base 5 1 v' (xs ++ [x]).length (byt (xs ++ [x])) ∧ Same (fun k => base ≤ k) w w') := by
  have hc : BytesAt (w.alloc (.cells #[.int .u8 x] 5 (0, 0))) (some ⟨w.heap.size, 0, none⟩) [x] := fun i y hy => by
    have hi : i = 0 := by have := (List.getElem?_eq_some_iff.1 hy).1; simp at this; omega
    subst hi
    simp at hy
    subst hy
    exact ⟨w.heap.size, 0, rfl, by simp, (cell_of (heap_new _ _) 0).trans rfl⟩
  obtain ⟨v', w', hr, r1, r2, r3⟩ := app_bytes (c := 1) (hown.alloc (.cells #[.int .u8 x] 5 (0, 0))) hc (fun e => by cases e) (by simp; omega) (by rw [World.size_alloc]; omega) ty
  exact ⟨v', w', hr, r1, ((Same.refl _ w).alloc _).trans' (Same.of_grown r2 fun k hk => (World.ownsRow.lt hown k hk).1)⟩
end Go.Proofs.Ytagkgenhgllglaa
