/- What is proved: plain facts on trees of spans whose nodes have places in a list of nodes: what a tree needs of the list, what turning a node leaves; no condition. -/
import Derived.Test.YtaiaahcblohknaaYRef
namespace Go.Proofs.Ytaiaahcblohknaa

theorem ne_in {α : Type} {q p : α} {l : List α} (hq : q ∈ l) (hp : p ∉ l) : q ≠ p := fun e => hp (e ▸ hq)
namespace Tr
/-- The least end. -/
def mn : Tr → Int
  | nil => 9223372036854775807
  | node l s r => min s.t (min l.mn r.mn)
/-- The greatest end. -/
def mx : Tr → Int
  | nil => -9223372036854775808
  | node l s r => max s.t (max l.mx r.mx)
theorem mn_le (t : Tr) : ∀ x ∈ t.list, t.mn ≤ x.t := by
  induction t with
  | nil => intro x hx; simp [list] at hx
  | node l s r ihl ihr =>
    intro x hx
    unfold mn
    simp only [list, List.mem_append, List.mem_cons] at hx
    rcases hx with h | rfl | h
    · have := ihl x h; omega
    · omega
    · have := ihr x h; omega
theorem le_mx (t : Tr) : ∀ x ∈ t.list, x.t ≤ t.mx := by
  induction t with
  | nil => intro x hx; simp [list] at hx
  | node l s r ihl ihr =>
    intro x hx
    unfold mx
    simp only [list, List.mem_append, List.mem_cons] at hx
    rcases hx with h | rfl | h
    · have := ihl x h; omega
    · omega
    · have := ihr x h; omega
/-- A root is taken out: the least of the second comes in its stead. -/
def joinG (l r : Tr) : Tr := match r.popL with
  | none => l
  | some (m, r') => fix l m r'
theorem joinG_ok : Joins joinG := fun l r => by
  have hz : (nil : Tr).ht = 0 := rfl
  unfold joinG
  cases hp : r.popL with
  | none =>
    obtain rfl := popL_none hp
    exact ⟨by simp [list], fun hl _ _ _ => ⟨hl, fun s => by have := ht_node l s nil; show l.ht = _ ∨ l.ht + 1 = _; omega⟩⟩
  | some q =>
    obtain ⟨m, r'⟩ := q
    obtain ⟨h1, h2⟩ := popL_some hp
    refine ⟨by show (fix l m r').list = _; rw [fix_list, h1], fun hl hr k1 k2 => ?_⟩
    obtain ⟨h3, h4⟩ := h2 hr
    obtain ⟨c, d, f⟩ := fix_bal m hl h3 (by omega) (by omega)
    refine ⟨c, fun s => ?_⟩
    show (fix l m r').ht = _ ∨ (fix l m r').ht + 1 = _
    have e1 := ht_node l s r
    have e2 := ht_node l m r'
    by_cases hc : l.ht ≤ r'.ht + 1
    · have := f hc (by omega); omega
    · omega
theorem ht_le_sz (t : Tr) : t.ht ≤ t.sz := by
  induction t with
  | nil => exact Nat.le_refl _
  | node l s r ihl ihr => rw [sz_node]; rcases ht_node l s r with ⟨e, _⟩ | ⟨e, _⟩ <;> omega
theorem mn_node (l : Tr) (s : Sp) (r : Tr) : (node l s r).mn = min s.t (min l.mn r.mn) := rfl
theorem mx_node (l : Tr) (s : Sp) (r : Tr) : (node l s r).mx = max s.t (max l.mx r.mx) := rfl
end Tr
/-- A tree whose nodes have places. -/
inductive PT where
  | nil : PT
  | node : Nat → PT → Sp → PT → PT
namespace PT
def root : PT → Nat
  | nil => 0
  | node p _ _ _ => p
def tr : PT → Tr
  | nil => .nil
  | node _ l s r => .node l.tr s r.tr
/-- Places and spans, in order. -/
def prs : PT → List (Nat × Sp)
  | nil => []
  | node p l s r => l.prs ++ (p, s) :: r.prs
def pl (T : PT) : List Nat := T.prs.map (·.1)
theorem pl_node (p : Nat) (l : PT) (s : Sp) (r : PT) : (node p l s r).pl = l.pl ++ p :: r.pl := by simp [pl, prs]
theorem list_prs (T : PT) : T.tr.list = T.prs.map (·.2) := by
  induction T with
  | nil => rfl
  | node p l s r ihl ihr => simp [tr, prs, Tr.list, ihl, ihr]
theorem pl_length (T : PT) : T.pl.length = T.tr.sz := by unfold Tr.sz; rw [list_prs]; simp [pl]
end PT
/-- A node of the list of nodes. -/
structure Nd where
  s : Sp
  l : Nat
  r : Nat
  h : Nat
  fi : Int
  la : Int
/-- What stands for the empty tree. -/
def nd0 : Nd := ⟨⟨0, 0, 0⟩, 0, 0, 0, 9223372036854775807, -9223372036854775808⟩
/-- What a tree's root says. -/
def ndOf (l : PT) (s : Sp) (r : PT) : Nd := ⟨s, l.root, r.root, (Tr.node l.tr s r.tr).ht, (Tr.node l.tr s r.tr).mn, (Tr.node l.tr s r.tr).mx⟩
/-- The tree lies in the list. -/
def Lay (N : List Nd) : PT → Prop
  | .nil => True
  | .node p l s r => p ≠ 0 ∧ N[p]? = some (ndOf l s r) ∧ Lay N l ∧ Lay N r
theorem Lay.frame {N N' : List Nd} : ∀ {T : PT}, Lay N T → (∀ p ∈ T.pl, N'[p]? = N[p]?) → Lay N' T
  | .nil, _, _ => trivial
  | .node p l s r, ⟨h0, h1, h2, h3⟩, hf => by
    rw [PT.pl_node] at hf
    exact ⟨h0, (hf p (by simp)).trans h1, Lay.frame h2 fun q hq => hf q (by simp [hq]), Lay.frame h3 fun q hq => hf q (by simp [hq])⟩
theorem Lay.mem {N : List Nd} : ∀ {T : PT}, Lay N T → ∀ p ∈ T.pl, p ≠ 0 ∧ p < N.length
  | .nil, _, p, hp => by simp [PT.pl, PT.prs] at hp
  | .node q l s r, ⟨h0, h1, h2, h3⟩, p, hp => by
    rw [PT.pl_node, List.mem_append, List.mem_cons] at hp
    rcases hp with hp | rfl | hp
    · exact Lay.mem h2 p hp
    · exact ⟨h0, (List.getElem?_eq_some_iff.1 h1).1⟩
    · exact Lay.mem h3 p hp
/-- What the root of a tree tells. -/
structure Tells (n : Nd) (t : Tr) : Prop where
  h : n.h = t.ht
  fi : n.fi = t.mn
  la : n.la = t.mx
theorem Lay.tells {N : List Nd} (h0 : N[0]? = some nd0) : ∀ {T : PT}, Lay N T → ∃ n, N[T.root]? = some n ∧ Tells n T.tr
  | .nil, _ => ⟨nd0, h0, rfl, rfl, rfl⟩
  | .node _ _ _ _, ⟨_, h1, _, _⟩ => ⟨_, h1, rfl, rfl, rfl⟩
theorem root_mem {T : PT} (h : T.root ≠ 0) : T.root ∈ T.pl := by
  cases T with
  | nil => exact absurd rfl h
  | node p l s r => rw [PT.pl_node]; simp [PT.root]
theorem root_zero {N : List Nd} {T : PT} (h : Lay N T) (e : T.root = 0) : T = .nil := by
  cases T with
  | nil => rfl
  | node p l s r => exact absurd e h.1
/-- A node is worked out anew. -/
def rf (n x y : Nd) : Nd := { n with h := max x.h y.h + 1, fi := min n.s.t (min x.fi y.fi), la := max n.s.t (max x.la y.la) }
/-- Nothing of the list has turned but what lies at S. -/
structure Ch (S : List Nat) (N N' : List Nd) : Prop where
  len : N'.length = N.length
  get : ∀ p, p ∉ S → N'[p]? = N[p]?
theorem Ch.refl (S : List Nat) (N : List Nd) : Ch S N N := ⟨rfl, fun _ _ => rfl⟩
theorem Ch.trans {S : List Nat} {A B C : List Nd} (h : Ch S A B) (k : Ch S B C) : Ch S A C := ⟨k.len.trans h.len, fun p hp => (k.get p hp).trans (h.get p hp)⟩
theorem Ch.mono {S S' : List Nat} {A B : List Nd} (h : Ch S A B) (hs : ∀ p ∈ S, p ∈ S') : Ch S' A B := ⟨h.len, fun p hp => h.get p fun hq => hp (hs p hq)⟩
theorem Ch.set {S : List Nat} (N : List Nd) {p : Nat} (hp : p ∈ S) (n : Nd) : Ch S N (N.set p n) := ⟨by simp, fun q hq => by rw [List.getElem?_set_ne]; intro e; exact hq (e ▸ hp)⟩
theorem set_here {N : List Nd} {p : Nat} {m : Nd} (h : N[p]? = some m) (n : Nd) : (N.set p n)[p]? = some n := by
  rw [List.getElem?_set_self]; exact (List.getElem?_eq_some_iff.1 h).1
theorem set_there {N : List Nd} {p q : Nat} (h : q ≠ p) (n : Nd) : (N.set p n)[q]? = N[q]? := List.getElem?_set_ne (fun e => h e.symm)
/-- A node under which two trees hang, whatever it says of them. -/
structure Hg (N : List Nd) (p : Nat) (L : PT) (s : Sp) (R : PT) (n : Nd) : Prop where
  p0 : p ≠ 0
  at_ : N[p]? = some n
  s_ : n.s = s
  l_ : n.l = L.root
  r_ : n.r = R.root
  ll : Lay N L
  lr : Lay N R
  nd : (L.pl ++ p :: R.pl).Nodup
  zero : N[0]? = some nd0
theorem Hg.parts {N : List Nd} {p : Nat} {L : PT} {s : Sp} {R : PT} {n : Nd} (h : Hg N p L s R n) : p ∉ L.pl ∧ p ∉ R.pl ∧ L.pl.Nodup ∧ R.pl.Nodup ∧ ∀ q ∈ L.pl, q ∉ R.pl := by
  obtain ⟨h1, h2, h3⟩ := List.nodup_append.1 h.nd
  obtain ⟨h4, h5⟩ := List.nodup_cons.1 h2
  exact ⟨fun hp => h3 p hp p (by simp) rfl, h4, h1, h5, fun q hq hr => h3 q hq q (by simp [hr]) rfl⟩
/-- It is worked out. -/
theorem Hg.done {N : List Nd} {p : Nat} {L : PT} {s : Sp} {R : PT} {n x y : Nd} (h : Hg N p L s R n) (hx : N[L.root]? = some x) (hy : N[R.root]? = some y) : Lay (N.set p (rf n x y)) (.node p L s R) := by
  obtain ⟨h1, h2, -⟩ := h.parts
  obtain ⟨x', ex, tx⟩ := h.ll.tells h.zero
  obtain ⟨y', ey, ty⟩ := h.lr.tells h.zero
  obtain rfl : x = x' := by rw [hx] at ex; exact Option.some.inj ex
  obtain rfl : y = y' := by rw [hy] at ey; exact Option.some.inj ey
  refine ⟨h.p0, ?_, h.ll.frame fun q hq => set_there (ne_in hq h1) _, h.lr.frame fun q hq => set_there (ne_in hq h2) _⟩
  rw [set_here h.at_]
  unfold rf ndOf
  rw [tx.h, ty.h, tx.fi, ty.fi, tx.la, ty.la, h.s_, h.l_, h.r_]
  rfl
theorem zero_set {N : List Nd} {p : Nat} (h : N[0]? = some nd0) (hp : p ≠ 0) (n : Nd) : (N.set p n)[0]? = some nd0 := (set_there (fun e => hp e.symm) n).trans h
/-- The first node of the left tree is lifted: what hangs under the old root .. -/
theorem Hg.liftR {N : List Nd} {p u : Nat} {a b R : PT} {s x : Sp} {n : Nd} (h : Hg N p (.node u a x b) s R n) :
    Hg ((N.set p { n with l := b.root }).set u { ndOf a x b with r := p }) p b s R { n with l := b.root } ∧
    ∀ M, Ch [p] ((N.set p { n with l := b.root }).set u { ndOf a x b with r := p }) M → Lay M (.node p b s R) → Hg M u a x (.node p b s R) { ndOf a x b with r := p } := by
  obtain ⟨h1, h2, h3, h4, h5⟩ := h.parts
  obtain ⟨hu0, hu, la, lb⟩ := h.ll
  rw [PT.pl_node] at h1 h3 h5
  obtain ⟨n1, n2, n3⟩ := List.nodup_append.1 h3
  obtain ⟨n4, n5⟩ := List.nodup_cons.1 n2
  have hpu : p ≠ u := fun e => h1 (by simp [e])
  have hpb : p ∉ b.pl := fun e => h1 (by simp [e])
  have hpa : p ∉ a.pl := fun e => h1 (by simp [e])
  have hua : u ∉ a.pl := fun e => n3 u e u (by simp) rfl
  have huR : u ∉ R.pl := h5 u (by simp)
  have fr : ∀ q, q ≠ p → q ≠ u → ((N.set p { n with l := b.root }).set u { ndOf a x b with r := p })[q]? = N[q]? := fun q e1 e2 => (set_there e2 _).trans (set_there e1 _)
  have e1 : ((N.set p { n with l := b.root }).set u { ndOf a x b with r := p })[p]? = some { n with l := b.root } := (set_there hpu _).trans (set_here h.at_ _)
  have e2 : ((N.set p { n with l := b.root }).set u { ndOf a x b with r := p })[u]? = some { ndOf a x b with r := p } := set_here ((set_there (fun e => hpu e.symm) _).trans hu) _
  have lb' : Lay ((N.set p { n with l := b.root }).set u { ndOf a x b with r := p }) b := lb.frame fun q hq => fr q (fun e => hpb (e ▸ hq)) fun e => n4 (e ▸ hq)
  have la' : Lay ((N.set p { n with l := b.root }).set u { ndOf a x b with r := p }) a := la.frame fun q hq => fr q (fun e => hpa (e ▸ hq)) fun e => hua (e ▸ hq)
  have lR' : Lay ((N.set p { n with l := b.root }).set u { ndOf a x b with r := p }) R := h.lr.frame fun q hq => fr q (fun e => h2 (e ▸ hq)) fun e => huR (e ▸ hq)
  have z' : ((N.set p { n with l := b.root }).set u { ndOf a x b with r := p })[0]? = some nd0 := (fr 0 (fun e => h.p0 e.symm) fun e => hu0 e.symm).trans h.zero
  have nd' : (b.pl ++ p :: R.pl).Nodup := by
    refine List.nodup_append.2 ⟨n5, List.nodup_cons.2 ⟨h2, h4⟩, fun q hq r hr e => ?_⟩
    subst e
    rcases List.mem_cons.1 hr with rfl | hr
    · exact hpb hq
    · exact h5 q (by simp [hq]) hr
  refine ⟨⟨h.p0, e1, h.s_, rfl, h.r_, lb', lR', nd', z'⟩, fun M c lM => ⟨hu0, (c.get u (by simpa using fun e => hpu e.symm)).trans e2, rfl, rfl, rfl, la'.frame fun q hq => c.get q (by simpa using ne_in hq hpa), lM, ?_, (c.get 0 (by simpa using fun e => h.p0 e.symm)).trans z'⟩⟩
  rw [PT.pl_node]
  have := h.nd
  rw [PT.pl_node] at this
  simpa using this
theorem Hg.liftL {N : List Nd} {p u : Nat} {a b L : PT} {s x : Sp} {n : Nd} (h : Hg N p L s (.node u a x b) n) :
    Hg ((N.set p { n with r := a.root }).set u { ndOf a x b with l := p }) p L s a { n with r := a.root } ∧
    ∀ M, Ch [p] ((N.set p { n with r := a.root }).set u { ndOf a x b with l := p }) M → Lay M (.node p L s a) → Hg M u (.node p L s a) x b { ndOf a x b with l := p } := by
  obtain ⟨h1, h2, h3, h4, h5⟩ := h.parts
  obtain ⟨hu0, hu, la, lb⟩ := h.lr
  rw [PT.pl_node] at h2 h4 h5
  obtain ⟨n1, n2, n3⟩ := List.nodup_append.1 h4
  obtain ⟨n4, n5⟩ := List.nodup_cons.1 n2
  have hpu : p ≠ u := fun e => h2 (by simp [e])
  have hpb : p ∉ b.pl := fun e => h2 (by simp [e])
  have hpa : p ∉ a.pl := fun e => h2 (by simp [e])
  have hua : u ∉ a.pl := fun e => n3 u e u (by simp) rfl
  have huL : u ∉ L.pl := fun e => h5 u e (by simp)
  have fr : ∀ q, q ≠ p → q ≠ u → ((N.set p { n with r := a.root }).set u { ndOf a x b with l := p })[q]? = N[q]? := fun q e1 e2 => (set_there e2 _).trans (set_there e1 _)
  have e1 : ((N.set p { n with r := a.root }).set u { ndOf a x b with l := p })[p]? = some { n with r := a.root } := (set_there hpu _).trans (set_here h.at_ _)
  have e2 : ((N.set p { n with r := a.root }).set u { ndOf a x b with l := p })[u]? = some { ndOf a x b with l := p } := set_here ((set_there (fun e => hpu e.symm) _).trans hu) _
  have lb' : Lay ((N.set p { n with r := a.root }).set u { ndOf a x b with l := p }) b := lb.frame fun q hq => fr q (fun e => hpb (e ▸ hq)) fun e => n4 (e ▸ hq)
  have la' : Lay ((N.set p { n with r := a.root }).set u { ndOf a x b with l := p }) a := la.frame fun q hq => fr q (fun e => hpa (e ▸ hq)) fun e => hua (e ▸ hq)
  have lL' : Lay ((N.set p { n with r := a.root }).set u { ndOf a x b with l := p }) L := h.ll.frame fun q hq => fr q (fun e => h1 (e ▸ hq)) fun e => huL (e ▸ hq)
  have z' : ((N.set p { n with r := a.root }).set u { ndOf a x b with l := p })[0]? = some nd0 := (fr 0 (fun e => h.p0 e.symm) fun e => hu0 e.symm).trans h.zero
  have nd' : (L.pl ++ p :: a.pl).Nodup := by
    refine List.nodup_append.2 ⟨h3, List.nodup_cons.2 ⟨hpa, n1⟩, fun q hq r hr e => ?_⟩
    subst e
    rcases List.mem_cons.1 hr with rfl | hr
    · exact h1 hq
    · exact h5 q hq (by simp [hr])
  refine ⟨⟨h.p0, e1, h.s_, h.l_, rfl, lL', la', nd', z'⟩, fun M c lM => ⟨hu0, (c.get u (by simpa using fun e => hpu e.symm)).trans e2, rfl, rfl, rfl, lM, lb'.frame fun q hq => c.get q (by simpa using ne_in hq hpb), ?_, (c.get 0 (by simpa using fun e => h.p0 e.symm)).trans z'⟩⟩
  rw [PT.pl_node]
  have := h.nd
  rw [PT.pl_node] at this
  simpa using this
end Go.Proofs.Ytaiaahcblohknaa
