/- What is proved: elements of rows of violations, as a comparison and an exchange read and write them; no condition. -/
import Derived.Test.YtnfkjblhnpnaeaaVCmpN
import Derived.Shelf.SlicesQ.Reverse
namespace Go.Proofs.Ytnfkjblhnpnaeaa
open Go.RowKit

theorem At.nbg {w : World} {b : Nat} {l : List Nb} (h : At nb1 13 w (some ⟨b, 0, none⟩) l) {j : Nat} {x : Nb} (hx : l[j]? = some x) : (∀ n os, (Sort.grow (w.drewN n) os).cell? ⟨b, j * 13, none⟩ = some (.int .i64 x.v.kd)) ∧ (∀ n os, (Sort.grow (w.drewN n) os).cell? ⟨b, j * 13 + 1, none⟩ = some (.int .i64 x.v.tm)) ∧ (∀ n os, (Sort.grow (w.drewN n) os).cell? ⟨b, j * 13 + 2, none⟩ = some (.int .i64 x.v.tx)) ∧ (∀ n os, (Sort.grow (w.drewN n) os).cell? ⟨b, j * 13 + 3, none⟩ = some (.int .i64 x.v.op)) ∧ (∀ n os, (Sort.grow (w.drewN n) os).cell? ⟨b, j * 13 + 4, none⟩ = some (.int .i64 x.v.wi)) ∧ (∀ n os, (Sort.grow (w.drewN n) os).cell? ⟨b, j * 13 + 5, none⟩ = some (.string x.v.key)) ∧ (∀ n os, (Sort.grow (w.drewN n) os).cell? ⟨b, j * 13 + 6, none⟩ = some (.bool x.v.wa)) ∧ (∀ n os, (Sort.grow (w.drewN n) os).cell? ⟨b, j * 13 + 7, none⟩ = some (.string x.v.ex)) ∧ (∀ n os, (Sort.grow (w.drewN n) os).cell? ⟨b, j * 13 + 8, none⟩ = some (.bool x.v.go)) ∧ (∀ n os, (Sort.grow (w.drewN n) os).cell? ⟨b, j * 13 + 9, none⟩ = some (.string x.v.ob)) ∧ (∀ n os, (Sort.grow (w.drewN n) os).cell? ⟨b, j * 13 + 10, none⟩ = some (.int .i64 x.v.fr)) ∧ (∀ n os, (Sort.grow (w.drewN n) os).cell? ⟨b, j * 13 + 11, none⟩ = some (.int .i64 x.v.tt)) ∧ (∀ n os, (Sort.grow (w.drewN n) os).cell? ⟨b, j * 13 + 12, none⟩ = some (.int .i64 x.n)) := by
  obtain ⟨b', o, e, hb, hc⟩ := h j x hx
  cases e
  have g : ∀ c v, (nb1 x)[c]? = some v → ∀ n os, (Sort.grow (w.drewN n) os).cell? ⟨b, j * 13 + c, none⟩ = some v := fun c v hv n os => cell_grown (a := ⟨b, _, none⟩) hb (by have := hc c v hv; rwa [Nat.zero_add] at this) n os
  exact ⟨g 0 _ rfl, g 1 _ rfl, g 2 _ rfl, g 3 _ rfl, g 4 _ rfl, g 5 _ rfl, g 6 _ rfl, g 7 _ rfl, g 8 _ rfl, g 9 _ rfl, g 10 _ rfl, g 11 _ rfl, g 12 _ rfl⟩
theorem At.vlg {w : World} {b : Nat} {l : List Vl} (h : At vl1 12 w (some ⟨b, 0, none⟩) l) {j : Nat} {x : Vl} (hx : l[j]? = some x) : (∀ n os, (Sort.grow (w.drewN n) os).cell? ⟨b, j * 12, none⟩ = some (.int .i64 x.kd)) ∧ (∀ n os, (Sort.grow (w.drewN n) os).cell? ⟨b, j * 12 + 1, none⟩ = some (.int .i64 x.tm)) ∧ (∀ n os, (Sort.grow (w.drewN n) os).cell? ⟨b, j * 12 + 2, none⟩ = some (.int .i64 x.tx)) ∧ (∀ n os, (Sort.grow (w.drewN n) os).cell? ⟨b, j * 12 + 3, none⟩ = some (.int .i64 x.op)) ∧ (∀ n os, (Sort.grow (w.drewN n) os).cell? ⟨b, j * 12 + 4, none⟩ = some (.int .i64 x.wi)) ∧ (∀ n os, (Sort.grow (w.drewN n) os).cell? ⟨b, j * 12 + 5, none⟩ = some (.string x.key)) ∧ (∀ n os, (Sort.grow (w.drewN n) os).cell? ⟨b, j * 12 + 6, none⟩ = some (.bool x.wa)) ∧ (∀ n os, (Sort.grow (w.drewN n) os).cell? ⟨b, j * 12 + 7, none⟩ = some (.string x.ex)) ∧ (∀ n os, (Sort.grow (w.drewN n) os).cell? ⟨b, j * 12 + 8, none⟩ = some (.bool x.go)) ∧ (∀ n os, (Sort.grow (w.drewN n) os).cell? ⟨b, j * 12 + 9, none⟩ = some (.string x.ob)) ∧ (∀ n os, (Sort.grow (w.drewN n) os).cell? ⟨b, j * 12 + 10, none⟩ = some (.int .i64 x.fr)) ∧ (∀ n os, (Sort.grow (w.drewN n) os).cell? ⟨b, j * 12 + 11, none⟩ = some (.int .i64 x.tt)) := by
  obtain ⟨b', o, e, hb, hc⟩ := h j x hx
  cases e
  have g : ∀ c v, (vl1 x)[c]? = some v → ∀ n os, (Sort.grow (w.drewN n) os).cell? ⟨b, j * 12 + c, none⟩ = some v := fun c v hv n os => cell_grown (a := ⟨b, _, none⟩) hb (by have := hc c v hv; rwa [Nat.zero_add] at this) n os
  exact ⟨g 0 _ rfl, g 1 _ rfl, g 2 _ rfl, g 3 _ rfl, g 4 _ rfl, g 5 _ rfl, g 6 _ rfl, g 7 _ rfl, g 8 _ rfl, g 9 _ rfl, g 10 _ rfl, g 11 _ rfl⟩
theorem Own.lt {α : Type} {enc : α → List Value} {k : Nat} {T : TypeId} {base : Nat} {w : World} {g m cap : Nat} {l : List α} (h : Own enc k T base w (.slice (some ⟨g, 0, none⟩) m cap) l) : g < w.heap.size ∧ m = l.length := by
  rcases h.2 with ⟨e0, hn⟩ | ⟨g', cap', cur, e0, hb, hg, h1, h2, h3, h4⟩
  · cases e0
  · cases e0
    exact ⟨lt_of_heap hg, rfl⟩
/-- A load of an element. -/
theorem Own.load {α : Type} {enc : α → List Value} {k : Nat} (E : Ek enc k) {T : TypeId} {base : Nat} {w : World} {g m cap : Nat} {l : List α} (h : Own enc k T base w (.slice (some ⟨g, 0, none⟩) m cap) l) {i : Nat} {x : α} (hx : l[i]? = some x) (P : Program) :
    Sem.run P (loadCellsFrom ⟨g, i * k, none⟩ 0 k #[]) w.drew = .ok (enc x).toArray w.drew := by
  refine run_loadCellsFrom_list P _ _ _ k (E.len x) fun c v hv => ?_
  obtain ⟨b, o, e, hb, hc⟩ := h.at E i x hx
  cases e
  have := hc c v hv
  rw [Nat.zero_add] at this
  rw [Addr.add_lit]
  exact this
end Go.Proofs.Ytnfkjblhnpnaeaa
