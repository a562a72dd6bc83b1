/- What is proved: plain facts of a reader over blocks and of a writer over a device and a space: bytes read one by one, bytes put one by one, and how pieces of them join; no condition. -/
import Derived.Test.YtpjkmficpedmcaaDSet
namespace Go.Proofs.Ytpjkmficpedmcaa
open Go.RowKit

/-- What a reader reads of: the input, or scratch blocks. -/
inductive Src where
  | inp
  | file (L : List Int)
/-- A reader's place and its device. -/
structure RdS where
  m : M
  nx : Nat
  held : List Int
/-- Block number i. -/
def Src.blk (f : Src) (m : M) (i : Nat) : Int × List Int × M :=
  match f with
  | .inp => m.readIn i
  | .file L => m.readSc (L.getD i 0)
/-- A byte is held, or the next block is read. -/
def RdS.hold (f : Src) (s : RdS) : Int × RdS :=
  if s.held ≠ [] then (0, s)
  else if (f.blk s.m s.nx).1 ≠ 0 then ((f.blk s.m s.nx).1, ⟨(f.blk s.m s.nx).2.2, s.nx, s.held⟩)
  else (0, ⟨(f.blk s.m s.nx).2.2, s.nx + 1, (f.blk s.m s.nx).2.1⟩)
/-- So many bytes, one by one. -/
def rd (f : Src) : Nat → RdS → Int × List Int × RdS
  | 0, s => (0, [], s)
  | k + 1, s =>
    if (s.hold f).1 ≠ 0 then ((s.hold f).1, [], (s.hold f).2)
    else match (s.hold f).2.held with
      | [] => (0, [], (s.hold f).2)
      | x :: t =>
        ((rd f k ⟨(s.hold f).2.m, (s.hold f).2.nx, t⟩).1, x :: (rd f k ⟨(s.hold f).2.m, (s.hold f).2.nx, t⟩).2.1, (rd f k ⟨(s.hold f).2.m, (s.hold f).2.nx, t⟩).2.2)

theorem hold_some {f : Src} {s : RdS} (h : s.held ≠ []) : s.hold f = (0, s) := if_pos h
/-- Bytes that are held. -/
theorem rd_held (f : Src) : ∀ (k : Nat) (s : RdS), k ≤ s.held.length → rd f k s = (0, s.held.take k, ⟨s.m, s.nx, s.held.drop k⟩)
  | 0, s, _ => by simp [rd]
  | k + 1, ⟨m, nx, []⟩, h => by simp at h
  | k + 1, ⟨m, nx, x :: t⟩, h => by
    have hh : (RdS.mk m nx (x :: t)).hold f = (0, ⟨m, nx, x :: t⟩) := hold_some (by simp)
    have ih := rd_held f k ⟨m, nx, t⟩ (by simpa using h)
    simp only [rd, hh, ih, ne_eq, not_true, if_false, List.take_succ_cons, List.drop_succ_cons]
/-- Some, then more. -/
theorem rd_add (f : Src) : ∀ (a b : Nat) (s : RdS) (p : List Int) (s' : RdS), rd f a s = (0, p, s') → p.length = a → rd f (a + b) s = ((rd f b s').1, p ++ (rd f b s').2.1, (rd f b s').2.2)
  | 0, b, s, p, s', h, hl => by
    simp only [rd, Prod.mk.injEq, true_and] at h
    obtain ⟨rfl, rfl⟩ := h
    simp
  | a + 1, b, s, p, s', h, hl => by
    rw [Nat.add_right_comm]
    simp only [rd] at h ⊢
    by_cases h1 : (s.hold f).1 ≠ 0
    · rw [if_pos h1] at h
      simp only [Prod.mk.injEq] at h
      exact absurd h.1 h1
    · rw [if_neg h1] at h ⊢
      cases h2 : (s.hold f).2.held with
      | nil =>
        rw [h2] at h
        simp only [Prod.mk.injEq] at h
        obtain ⟨-, rfl, -⟩ := h
        simp at hl
      | cons x t =>
        rw [h2] at h
        simp only [Prod.mk.injEq] at h ⊢
        obtain ⟨e1, rfl, e3⟩ := h
        have ih := rd_add f a b ⟨(s.hold f).2.m, (s.hold f).2.nx, t⟩ _ s' (by rw [← e1, ← e3]) (by simpa using hl)
        rw [ih]
        simp
/-- Where nothing is held the next block is read first. -/
theorem rd_next {f : Src} {s s' : RdS} (k : Nat) (hh : s.hold f = (0, s')) (hs : s'.held ≠ []) : rd f (k + 1) s = rd f (k + 1) s' := by
  have h' : s'.hold f = (0, s') := hold_some hs
  simp only [rd, hh, h']
theorem rd_fail {f : Src} {s s' : RdS} {e : Int} (k : Nat) (hh : s.hold f = (e, s')) (he : e ≠ 0) : rd f (k + 1) s = (e, [], s') := by
  simp only [rd, hh]
  rw [if_pos he]

/-! the space: which blocks are used -/
/-- The lowest free block. -/
def low (u : List Bool) : Option Nat := u.findIdx? (fun x => !x)
/-- Free of one block: the code, and what is used then. -/
def free1 (u : List Bool) (b : Int) : Int × List Bool :=
  if b < 0 ∨ (u.length : Int) ≤ b then (43, u) else if u.getD b.toNat false = false then (44, u) else (0, u.set b.toNat false)
/-- Blocks given back, one by one: the first error, and what is used then. -/
def drops : List Int → List Bool → Int × List Bool
  | [], u => (0, u)
  | b :: r, u => (if (free1 u b).1 = 0 then (drops r (free1 u b).2).1 else (free1 u b).1, (drops r (free1 u b).2).2)
theorem low_none {u : List Bool} : low u = none ↔ ∀ b : Nat, b < u.length → u[b]? = some true := by
  unfold low
  rw [List.findIdx?_eq_none_iff]
  constructor
  · intro h b hb
    have := h _ (List.getElem_mem hb)
    rw [List.getElem?_eq_getElem hb]
    simpa using this
  · intro h x hx
    obtain ⟨b, hb, rfl⟩ := List.getElem_of_mem hx
    have := h b hb
    rw [List.getElem?_eq_getElem hb] at this
    simpa using this
theorem low_some {u : List Bool} {i : Nat} : low u = some i ↔ u[i]? = some false ∧ ∀ j : Nat, j < i → u[j]? = some true := by
  unfold low
  rw [List.findIdx?_eq_some_iff_getElem]
  constructor
  · rintro ⟨h, h1, h2⟩
    refine ⟨?_, fun j hj => ?_⟩
    · rw [List.getElem?_eq_getElem h]; simpa using h1
    · have := h2 j hj
      rw [List.getElem?_eq_getElem (by omega)]
      simpa using this
  · rintro ⟨h1, h2⟩
    have h := (List.getElem?_eq_some_iff.1 h1).1
    refine ⟨h, ?_, fun j hj => ?_⟩
    · rw [List.getElem?_eq_getElem h] at h1; simpa using h1
    · have := h2 j hj
      rw [List.getElem?_eq_getElem (by omega)] at this
      simpa using this
theorem free1_len (u : List Bool) (b : Int) : (free1 u b).2.length = u.length := by
  unfold free1
  split
  · rfl
  · split <;> simp
theorem drops_len : ∀ (l : List Int) (u : List Bool), (drops l u).2.length = u.length
  | [], _ => rfl
  | b :: r, u => by simp only [drops]; rw [drops_len r, free1_len]
theorem drops_app : ∀ (l r : List Int) (u : List Bool), drops (l ++ r) u = (if (drops l u).1 = 0 then (drops r (drops l u).2).1 else (drops l u).1, (drops r (drops l u).2).2)
  | [], r, u => by simp [drops]
  | b :: l, r, u => by
    simp only [List.cons_append, drops, drops_app l r]
    by_cases h : (free1 u b).1 = 0 <;> simp [h]

/-- A writer, its device and its space. -/
structure WrS where
  m : M
  u : List Bool
  bl : List Int
  bg : List Int
  sz : Nat
  br : Int
/-- It breaks: its blocks are given back. -/
def WrS.fail (s : WrS) (e : Int) : WrS := ⟨s.m, (drops s.bl s.u).2, [], [], 0, e⟩
/-- A block is begun, or one is taken. -/
def WrS.begin (s : WrS) : Int × WrS :=
  if s.bg ≠ [] then (0, s)
  else match low s.u with
    | none => (42, s.fail 42)
    | some i => (0, { s with u := s.u.set i true, bl := s.bl ++ [(i : Int)] })
/-- The block that is begun is written. -/
def WrS.flush (s : WrS) : Int × WrS :=
  if (s.m.write (s.bl.getLastD 0) s.bg).1 ≠ 0 then ((s.m.write (s.bl.getLastD 0) s.bg).1, { s with m := (s.m.write (s.bl.getLastD 0) s.bg).2 }.fail (s.m.write (s.bl.getLastD 0) s.bg).1)
  else (0, { s with m := (s.m.write (s.bl.getLastD 0) s.bg).2, bg := [] })
/-- Bytes behind those of a block that is begun, at most as many as it takes; it is written when it is full. -/
def WrS.more (s : WrS) (l : List Int) : Int × WrS :=
  if s.bg.length + l.length = s.m.B then ({ s with bg := s.bg ++ l, sz := s.sz + l.length } : WrS).flush
  else (0, { s with bg := s.bg ++ l, sz := s.sz + l.length })
/-- Bytes, one by one. -/
def wr : List Int → WrS → Int × WrS
  | [], s => (0, s)
  | x :: r, s =>
    if s.begin.1 ≠ 0 then s.begin
    else if (s.begin.2.more [x]).1 ≠ 0 then s.begin.2.more [x]
    else wr r (s.begin.2.more [x]).2
theorem wr_app : ∀ (a b : List Int) (s s' : WrS), wr a s = (0, s') → wr (a ++ b) s = wr b s'
  | [], b, s, s', h => by simp only [wr, Prod.mk.injEq, true_and] at h; subst h; rfl
  | x :: a, b, s, s', h => by
    simp only [List.cons_append, wr] at h ⊢
    by_cases h1 : s.begin.1 ≠ 0
    · rw [if_pos h1] at h
      rw [h] at h1
      exact absurd rfl h1
    · rw [if_neg h1] at h ⊢
      by_cases h2 : (s.begin.2.more [x]).1 ≠ 0
      · rw [if_pos h2] at h
        rw [h] at h2
        exact absurd rfl h2
      · rw [if_neg h2] at h ⊢
        exact wr_app a b _ s' h
theorem wr_err : ∀ (a b : List Int) (s s' : WrS) (e : Int), wr a s = (e, s') → e ≠ 0 → wr (a ++ b) s = (e, s')
  | [], b, s, s', e, h, he => by simp only [wr, Prod.mk.injEq] at h; exact absurd h.1.symm he
  | x :: a, b, s, s', e, h, he => by
    simp only [List.cons_append, wr] at h ⊢
    by_cases h1 : s.begin.1 ≠ 0
    · rw [if_pos h1] at h ⊢
      exact h
    · rw [if_neg h1] at h ⊢
      by_cases h2 : (s.begin.2.more [x]).1 ≠ 0
      · rw [if_pos h2] at h ⊢
        exact h
      · rw [if_neg h2] at h ⊢
        exact wr_err a b _ s' e h he
theorem begin_held {s : WrS} (h : s.bg ≠ []) : s.begin = (0, s) := if_pos h
/-- Bytes that the block that is begun takes. -/
theorem wr_more : ∀ (l : List Int) (x : Int) (s : WrS), s.begin.1 = 0 → s.begin.2.bg.length + (x :: l).length ≤ s.begin.2.m.B → wr (x :: l) s = s.begin.2.more (x :: l)
  | [], x, s, h0, hl => by
    simp only [wr]
    rw [if_neg (by simpa using h0)]
    split
    · rfl
    · next h => exact Prod.ext (by simpa using (Classical.not_not.1 h).symm) rfl
  | y :: l, x, s, h0, hl => by
    have hb : (s.begin.2.more [x]) = (0, { s.begin.2 with bg := s.begin.2.bg ++ [x], sz := s.begin.2.sz + 1 }) := by
      unfold WrS.more
      rw [if_neg (by simp only [List.length_cons, List.length_nil] at hl ⊢; omega)]
      simp
    rw [wr, if_neg (by simpa using h0), hb, if_neg (by simp)]
    have hbg : ({ s.begin.2 with bg := s.begin.2.bg ++ [x], sz := s.begin.2.sz + 1 } : WrS).begin = (0, { s.begin.2 with bg := s.begin.2.bg ++ [x], sz := s.begin.2.sz + 1 }) := begin_held (by simp)
    have ih := wr_more l y { s.begin.2 with bg := s.begin.2.bg ++ [x], sz := s.begin.2.sz + 1 } (by rw [hbg]) (by rw [hbg]; simp only [List.length_append, List.length_cons, List.length_nil] at hl ⊢; omega)
    rw [ih, hbg]
    unfold WrS.more
    simp only [List.length_append, List.length_cons, List.length_nil, List.append_assoc, List.cons_append, List.nil_append]
    rw [show s.begin.2.bg.length + (0 + 1) + (l.length + 1) = s.begin.2.bg.length + (l.length + 1 + 1) by omega, show s.begin.2.sz + 1 + (l.length + 1) = s.begin.2.sz + (l.length + 1 + 1) by omega]
end Go.Proofs.Ytpjkmficpedmcaa
