/- What is proved: small laws on a tree of stops, the caller's list of them and the document's own tree beside them in memory; no condition. -/
import Derived.Test.YtkkkndbfokjikabTold
import Derived.Test.YtkkkndbfokjikabListT
namespace Go.Proofs.Ytkkkndbfokjikab
open Go.Conc Go.RowKit

/-- A tree, the list of its stops (block lg), the document's tree of the same numbers (blocks rb, rg). -/
structure GH (w : World) (T : Tr) (lg lcap rb rg rcap : Nat) : Prop where
  h : Holds 0 w T
  rng : Rng T.left T.n
  cl : Closed T.par T.cause T.n
  n1 : 1 ≤ T.n
  n2 : T.n ≤ 256
  ps : ∀ k, 0 < k → k < T.n → ∃ p, T.par k = some p
  l : w.ownsRow 0 24 1 (.slice (some ⟨lg, 0, none⟩) T.n lcap) T.n (ptrs T.blk T.n)
  r : RefH w rb rg rcap T.n T.par T.left T.cause
  ap : T.sv.ownBlock ≠ some lg

/-- The blocks of all three. -/
def FootG (T : Tr) (lg rb rg : Nat) (k : Nat) : Prop := Foot T k ∨ k = lg ∨ k = rb ∨ k = rg

/-- A block whose cells are of another type than the tree's is none of the tree's. -/
theorem not_foot {m : Int} {w : World} {T : Tr} (h : Holds m w T) {k : Nat} {cur : Array Value} {e : TypeId} (hk : w.heap[k]? = some (.cells cur e (0, 0))) (h1 : e ≠ 53) (h2 : e ≠ 24) (h3 : e ≠ 63) : ¬ Foot T k := by
  rintro (rfl | hk' | ⟨i, hi, rfl | rfl⟩)
  · rw [h.tree] at hk; simp only [treeObj, Option.some.injEq, Obj.cells.injEq] at hk; exact h1 hk.2.1.symm
  · obtain ⟨c, hc⟩ := row_block h.row hk'
    rw [hc] at hk; simp only [Option.some.injEq, Obj.cells.injEq] at hk; exact h2 hk.2.1.symm
  · rw [h.stop i hi] at hk; simp only [stopObj, Option.some.injEq, Obj.cells.injEq] at hk; exact h3 hk.2.1.symm
  · rw [h.chan i hi] at hk; simp [chanObj] at hk

section
variable {w : World} {T : Tr} {lg lcap rb rg rcap : Nat}
theorem GH.lblock (G : GH w T lg lcap rb rg rcap) : ∃ cur, w.heap[lg]? = some (.cells cur 24 (0, 0)) := row_block G.l rfl
theorem GH.nl (G : GH w T lg lcap rb rg rcap) : ¬ Foot T lg := by
  obtain ⟨cur, hc⟩ := G.lblock
  rintro (rfl | hk' | ⟨i, hi, rfl | rfl⟩)
  · rw [G.h.tree] at hc; simp [treeObj] at hc
  · exact G.ap hk'
  · rw [G.h.stop i hi] at hc; simp [stopObj] at hc
  · rw [G.h.chan i hi] at hc; simp [chanObj] at hc
theorem GH.nrb (G : GH w T lg lcap rb rg rcap) : ¬ Foot T rb := not_foot G.h G.r.tree (by decide) (by decide) (by decide)
theorem GH.nrg (G : GH w T lg lcap rb rg rcap) : ¬ Foot T rg := by
  obtain ⟨cur, hc, _⟩ := G.r.cur
  exact not_foot G.h hc (by decide) (by decide) (by decide)
theorem GH.lrb (G : GH w T lg lcap rb rg rcap) : lg ≠ rb := fun e => by
  obtain ⟨cur, hc⟩ := G.lblock
  rw [e, G.r.tree] at hc; simp at hc
theorem GH.lrg (G : GH w T lg lcap rb rg rcap) : lg ≠ rg := fun e => by
  obtain ⟨cur, hc⟩ := G.lblock
  obtain ⟨cur', hc', _⟩ := G.r.cur
  rw [e, hc'] at hc; simp at hc
theorem GH.lt (G : GH w T lg lcap rb rg rcap) {k : Nat} (hk : FootG T lg rb rg k) : k < w.heap.size := by
  rcases hk with hk | rfl | rfl | rfl
  · exact G.h.lt hk
  · obtain ⟨cur, hc⟩ := G.lblock; exact lt_of_heap hc
  · exact lt_of_heap G.r.tree
  · obtain ⟨cur, hc, _⟩ := G.r.cur; exact lt_of_heap hc
theorem GH.at (G : GH w T lg lcap rb rg rcap) {i : Nat} (hi : i < T.n) : w.cell? ⟨lg, i, none⟩ = some (.pointer (some ⟨T.blk i, 0, none⟩)) := row_at G.l (ptrs_get _ _ i hi)
theorem GH.kept {S : Nat → Prop} {w' : World} (G : GH w T lg lcap rb rg rcap) (s : Same S w w') (hd : ∀ k, FootG T lg rb rg k → ¬ S k) : GH w' T lg lcap rb rg rcap where
  h := G.h.kept s fun k hk => hd k (.inl hk)
  rng := G.rng
  cl := G.cl
  n1 := G.n1
  n2 := G.n2
  ps := G.ps
  l := row_kept G.l fun k hk => s.block k (G.l.lt k hk).2 (hd k (.inr (.inl (by simpa [Value.ownBlock] using hk.symm))))
  r := G.r.kept s (hd _ (.inr (.inr (.inl rfl)))) (hd _ (.inr (.inr (.inr rfl))))
  ap := G.ap
/-- Behind a call on the tree and one on the document's, which keep the numbers of stops. -/
theorem GH.both {w1 w2 : World} {L C : Nat → Int} (G : GH w T lg lcap rb rg rcap) (h1 : Holds 0 w1 { T with left := L, cause := C }) (s1 : Same (Foot T) w w1) (r2 : RefH w2 rb rg rcap T.n T.par L C) (s2 : Same (fun k => k = rb ∨ k = rg) w1 w2)
    (rng : Rng L T.n) (cl : Closed T.par C T.n) : GH w2 { T with left := L, cause := C } lg lcap rb rg rcap ∧ Same (FootG T lg rb rg) w w2 := by
  have nb : ∀ k, Foot T k → ¬ (k = rb ∨ k = rg) := fun k hk => by
    rintro (rfl | rfl)
    · exact G.nrb hk
    · exact G.nrg hk
  refine ⟨⟨h1.kept s2 nb, rng, cl, G.n1, G.n2, G.ps, ?_, r2, G.ap⟩, ?_⟩
  · refine row_kept (row_kept G.l fun k hk => s1.block k (G.l.lt k hk).2 ?_) fun k hk => s2.block k (Nat.lt_of_lt_of_le (G.l.lt k hk).2 s1.size) ?_
    · simp only [Value.ownBlock, Option.some.injEq] at hk; subst hk; exact G.nl
    · simp only [Value.ownBlock, Option.some.injEq] at hk; subst hk
      rintro (e | e)
      · exact G.lrb e
      · exact G.lrg e
  · exact (s1.mono fun k _ hk => .inl hk).trans' (s2.mono fun k _ hk => hk.elim (fun e => .inr (.inr (.inl e))) (fun e => .inr (.inr (.inr e))))
/-- The document's tree behind a call on the tree. -/
theorem GH.ref {w1 : World} (G : GH w T lg lcap rb rg rcap) (s1 : Same (Foot T) w w1) : RefH w1 rb rg rcap T.n T.par T.left T.cause := G.r.kept s1 G.nrb G.nrg
end
end Go.Proofs.Ytkkkndbfokjikab
