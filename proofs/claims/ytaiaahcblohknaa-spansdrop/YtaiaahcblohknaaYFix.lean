/- What is proved: plain facts on trees with places: what hangs on a node that is laid, what a new tree on one side leaves, how a tree is turned; no condition. -/
import Derived.Test.YtaiaahcblohknaaYPl
namespace Go.Proofs.Ytaiaahcblohknaa

namespace Tr
theorem fixA1 {a b1 b2 r : Tr} {x y s : Sp} (h : r.ht + 1 < (node a x (node b1 y b2)).ht) (k : a.ht < (node b1 y b2).ht) : fix (node a x (node b1 y b2)) s r = node (node a x b1) y (node b2 s r) := by
  unfold fix
  rw [if_pos h, if_pos (show (node a x (node b1 y b2)).left.ht < (node a x (node b1 y b2)).right.ht from k)]
  rfl
theorem fixA2 {a b r : Tr} {x s : Sp} (h : r.ht + 1 < (node a x b).ht) (k : ¬ a.ht < b.ht) : fix (node a x b) s r = node a x (node b s r) := by
  unfold fix
  rw [if_pos h, if_neg (show ¬ (node a x b).left.ht < (node a x b).right.ht from k)]
  rfl
theorem fixB1 {l a1 a2 b : Tr} {x y s : Sp} (_h0 : l.ht ≤ (node (node a1 y a2) x b).ht + 1) (h : l.ht + 1 < (node (node a1 y a2) x b).ht) (k : b.ht < (node a1 y a2).ht) : fix l s (node (node a1 y a2) x b) = node (node l s a1) y (node a2 x b) := by
  unfold fix
  rw [if_neg (by omega), if_pos h, if_pos (show (node (node a1 y a2) x b).right.ht < (node (node a1 y a2) x b).left.ht from k)]
  rfl
theorem fixB2 {l a b : Tr} {x s : Sp} (_h0 : l.ht ≤ (node a x b).ht + 1) (h : l.ht + 1 < (node a x b).ht) (k : ¬ b.ht < a.ht) : fix l s (node a x b) = node (node l s a) x b := by
  unfold fix
  rw [if_neg (by omega), if_pos h, if_neg (show ¬ (node a x b).right.ht < (node a x b).left.ht from k)]
  rfl
end Tr
/-- A tree that lies: its root hangs. -/
theorem Lay.hg {N : List Nd} {p : Nat} {L : PT} {s : Sp} {R : PT} (h : Lay N (.node p L s R)) (hd : (PT.node p L s R).pl.Nodup) (h0 : N[0]? = some nd0) : Hg N p L s R (ndOf L s R) :=
  ⟨h.1, h.2.1, rfl, rfl, rfl, h.2.2.1, h.2.2.2, by rw [PT.pl_node] at hd; exact hd, h0⟩
/-- The left tree's root hangs too. -/
theorem Hg.subL {N : List Nd} {p u : Nat} {a b R : PT} {s x : Sp} {n : Nd} (h : Hg N p (.node u a x b) s R n) : Hg N u a x b (ndOf a x b) := h.ll.hg h.parts.2.2.1 h.zero
theorem Hg.subR {N : List Nd} {p u : Nat} {a b L : PT} {s x : Sp} {n : Nd} (h : Hg N p L s (.node u a x b) n) : Hg N u a x b (ndOf a x b) := h.lr.hg h.parts.2.2.2.1 h.zero
/-- Another tree hangs on the left. -/
theorem Hg.relinkL {N N1 : List Nd} {p : Nat} {L R : PT} {s : Sp} {n : Nd} (h : Hg N p L s R n) {L' : PT} {S : List Nat} (hc : Ch S N N1) (hl : Lay N1 L') (hp : p ∉ S) (h0 : 0 ∉ S) (hR : ∀ q ∈ R.pl, q ∉ S) (nd : (L'.pl ++ p :: R.pl).Nodup) :
    N1[p]? = some n ∧ Hg (N1.set p { n with l := L'.root }) p L' s R { n with l := L'.root } := by
  have e := (hc.get p hp).trans h.at_
  obtain ⟨d1, d2, d3⟩ := List.nodup_append.1 nd
  obtain ⟨d4, d5⟩ := List.nodup_cons.1 d2
  have hpL : p ∉ L'.pl := fun hq => d3 p hq p (by simp) rfl
  exact ⟨e, h.p0, set_here e _, h.s_, rfl, h.r_, hl.frame fun q hq => set_there (ne_in hq hpL) _, h.lr.frame fun q hq => (set_there (ne_in hq d4) _).trans (hc.get q (hR q hq)), nd, zero_set ((hc.get 0 h0).trans h.zero) h.p0 _⟩
theorem Hg.relinkR {N N1 : List Nd} {p : Nat} {L R : PT} {s : Sp} {n : Nd} (h : Hg N p L s R n) {R' : PT} {S : List Nat} (hc : Ch S N N1) (hr : Lay N1 R') (hp : p ∉ S) (h0 : 0 ∉ S) (hL : ∀ q ∈ L.pl, q ∉ S) (nd : (L.pl ++ p :: R'.pl).Nodup) :
    N1[p]? = some n ∧ Hg (N1.set p { n with r := R'.root }) p L s R' { n with r := R'.root } := by
  have e := (hc.get p hp).trans h.at_
  obtain ⟨d1, d2, d3⟩ := List.nodup_append.1 nd
  obtain ⟨d4, d5⟩ := List.nodup_cons.1 d2
  have hpL : p ∉ L.pl := fun hq => d3 p hq p (by simp) rfl
  exact ⟨e, h.p0, set_here e _, h.s_, h.l_, rfl, h.ll.frame fun q hq => (set_there (ne_in hq hpL) _).trans (hc.get q (hL q hq)), hr.frame fun q hq => set_there (ne_in hq d4) _, nd, zero_set ((hc.get 0 h0).trans h.zero) h.p0 _⟩
theorem Lay.zero_out {N : List Nd} {T : PT} (h : Lay N T) : 0 ∉ T.pl := fun e => (h.mem 0 e).1 rfl
end Go.Proofs.Ytaiaahcblohknaa
