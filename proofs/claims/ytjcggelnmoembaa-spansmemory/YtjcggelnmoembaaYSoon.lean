/- What is proved: soonest gives a span of a tree that ends no later than any other there; the forest lies in memory. -/
import Derived.Test.YtjcggelnmoembaaYHas
namespace Go.Proofs.Ytjcggelnmoembaa
open Go.RowKit

theorem results_c {fn : Func} {a t : Nat} {P : Program} {w : World} {tmps : Array Value} {ad : Addr} {v : Value} (h : fn.results = #[.cell a t]) (ha : tmps.getD a undef = .pointer (some ad)) (hv : (loadVar t ad).run P w = .ok v w) : (results fn tmps).run P w = .ok v w := by
  have ha' : tmps[a]?.getD undef = .pointer (some ad) := by simpa using ha
  simp [results, h, ha', asAddr, hv]
theorem loadVar_sp {w : World} {b : Nat} {x : Sp} (h : w.heap[b]? = some (spO x)) : (loadVar 28 ⟨b, 0, none⟩).run Try.prog w = .ok (spV x) w := by
  obtain ⟨c0, c1, c2⟩ := sp_cells h
  clear h
  unfold spV
  go_simp
theorem put3 {W : World} {g : Nat} {p q r : Value} {ty : TypeId} (h : W.heap[g]? = some (.cells #[p, q, r] ty (0, 0))) (a b c : Value) :
    (((W.setCell ⟨g, 0, none⟩ a).setCell ⟨g, 1, none⟩ b).setCell ⟨g, 2, none⟩ c).heap[g]? = some (.cells #[a, b, c] ty (0, 0)) := by
  have h4 := setCell_at (setCell_at (setCell_at h 0 a) 1 b) 2 c
  simpa using h4
theorem put3_same {S : Nat → Prop} {w W : World} (k : Same S w W) {g : Nat} (hg : w.heap.size ≤ g ∨ S g) (a b c : Value) : Same S w (((W.setCell ⟨g, 0, none⟩ a).setCell ⟨g, 1, none⟩ b).setCell ⟨g, 2, none⟩ c) :=
  Same.setCell (Same.setCell (Same.setCell k ⟨g, 0, none⟩ hg a) ⟨g, 1, none⟩ hg b) ⟨g, 2, none⟩ hg c
end Go.Proofs.Ytjcggelnmoembaa
