/- What is proved: one step of a script on both devices: the law's step answers true, and both are alike behind it; both lie in memory. -/
import Derived.Test.YtagkgenhgllglaaDRvK
namespace Go.Proofs.Ytagkgenhgllglaa
open Go.RowKit

/-- Both devices beside one another, in blocks from base on. -/
structure Two (base : Nat) (w : World) (m : M) (p : Pl) (q : RP) (Q : List Rb) : Prop where
  d : Dv w m p
  r : Rv w m q Q
  a1 : ∀ k, Foot m p k → ¬ ROwn q k
  a2 : ∀ k, RFoot m q k → ¬ Own p k
  b1 : ∀ k, Own p k → base ≤ k
  b2 : ∀ k, ROwn q k → base ≤ k
theorem Two.on {base : Nat} {w w' : World} {m : M} {p : Pl} {q : RP} {Q : List Rb} (h : Two base w m p q Q) (k : Kept w w') : Two base w' m p q Q := ⟨h.d.kept0 k, h.r.on k, h.a1, h.a2, h.b1, h.b2⟩
/-- What both leave alone. -/
def Left (base : Nat) (w w' : World) : Prop := Same (fun k => base ≤ k) w w'
theorem inp_readR (m : M) (r : Int) (c : M) (n : Nat) (l : List Int) (b : Int) (h1 : c.inp = m.inp) (h2 : c.F = m.F) : (m.readR r c n l b).2.2.inp = m.inp ∧ (m.readR r c n l b).2.2.F = m.F := by
  unfold M.readR
  split
  · exact ⟨rfl, rfl⟩
  · split
    · exact ⟨rfl, rfl⟩
    · split
      · exact ⟨h1, h2⟩
      · exact ⟨h1, h2⟩
theorem inp_write (m : M) (b : Int) (d : List Int) : (m.write b d).2.inp = m.inp ∧ (m.write b d).2.F = m.F := by
  unfold M.write
  split
  · exact ⟨rfl, rfl⟩
  · split
    · exact ⟨rfl, rfl⟩
    · split
      · exact ⟨rfl, rfl⟩
      · split
        · exact ⟨rfl, rfl⟩
        · split
          · exact ⟨rfl, rfl⟩
          · exact ⟨rfl, rfl⟩
/-- Behind a call on each. -/
theorem Two.next {base : Nat} {w w1 w2 w3 : World} {m m' : M} {p : Pl} {q : RP} {Q Q' : List Rb} {v : Value} (h : Two base w m p q Q) (hb : base ≤ w.heap.size) (d1 : Dv w1 m' p) (k1 : Same (Own p) w w1) (k2 : Kept w1 w2) (r2 : Rv w3 m' { q with sv := v } Q') (k3 : Same (ROwn q) w2 w3) (hn : RNew w q v)
    (e1 : m'.inp = m.inp) (e2 : m'.F = m.F) : Two base w3 m' p { q with sv := v } Q' ∧ Left base w w3 := by
  have hf : ∀ k, Foot m' p k → Foot m p k := fun k hk => by unfold Foot at *; rw [e1, e2] at hk; exact hk
  have ho : ∀ k, k < w.heap.size → ROwn { q with sv := v } k → ROwn q k := fun k hk e => by
    rcases e with e | e | e
    · exact .inl e
    · exact .inr (.inl e)
    · rcases hn with x | ⟨k', x1, x2⟩
      · exact .inr (.inr (x ▸ e))
      · have e : v.ownBlock = some k := e
        rw [x1] at e; cases e; omega
  refine ⟨⟨(d1.kept0 k2).kept k3 fun k hk => h.a1 k (hf k hk), r2, fun k hk e => ?_, fun k hk e => ?_, h.b1, fun k hk => ?_⟩, ?_⟩
  · exact h.a1 k (hf k hk) (ho k (h.d.lt (hf k hk)) e)
  · rcases hk with hk | hk
    · exact h.a2 k (.inl (ho k (h.d.lt (.inl e)) hk)) e
    · exact h.a2 k (.inr (by rw [← e1, ← e2]; exact hk)) e
  · rcases Nat.lt_or_ge k w.heap.size with x | x
    · exact h.b2 k (ho k x hk)
    · exact Nat.le_trans hb x
  · exact ((k1.mono fun k _ e => h.b1 k e).trans' (Kept.to k2 _)).trans' (k3.mono fun k _ e => h.b2 k e)
end Go.Proofs.Ytagkgenhgllglaa
