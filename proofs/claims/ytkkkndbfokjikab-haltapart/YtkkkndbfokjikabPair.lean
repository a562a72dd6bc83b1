/- What is proved: small laws on two trees of stops, each with the caller's list and the document's own tree, which share no block; no condition. -/
import Derived.Test.YtkkkndbfokjikabScript
namespace Go.Proofs.Ytkkkndbfokjikab
open Go.Conc Go.RowKit

/-- Two groups that share no block, both from block lo on, in a world that has come from w0. -/
structure Two (lo : Nat) (w0 w : World) (T1 : Tr) (l1 c1 b1 g1 r1 : Nat) (T2 : Tr) (l2 c2 b2 g2 r2 : Nat) : Prop where
  a : GH w T1 l1 c1 b1 g1 r1
  b : GH w T2 l2 c2 b2 g2 r2
  dj : ∀ k, FootG T1 l1 b1 g1 k → ¬ FootG T2 l2 b2 g2 k
  loa : ∀ k, FootG T1 l1 b1 g1 k → lo ≤ k
  lob : ∀ k, FootG T2 l2 b2 g2 k → lo ≤ k
  bl : Below lo w0 w
  sz : lo ≤ w0.heap.size

theorem Two.symm {lo : Nat} {w0 w : World} {T1 T2 : Tr} {l1 c1 b1 g1 r1 l2 c2 b2 g2 r2 : Nat} (h : Two lo w0 w T1 l1 c1 b1 g1 r1 T2 l2 c2 b2 g2 r2) : Two lo w0 w T2 l2 c2 b2 g2 r2 T1 l1 c1 b1 g1 r1 :=
  ⟨h.b, h.a, fun k hk h' => h.dj k h' hk, h.lob, h.loa, h.bl, h.sz⟩

/-- What a call on the first leaves. -/
theorem Two.turn {lo : Nat} {w0 w w' : World} {T1 T2 T' : Tr} {l1 c1 b1 g1 r1 l2 c2 b2 g2 r2 l' c' g' r' : Nat} (h : Two lo w0 w T1 l1 c1 b1 g1 r1 T2 l2 c2 b2 g2 r2) (G : GH w' T' l' c' b1 g' r')
    (hf : ∀ k, FootG T' l' b1 g' k → FootG T1 l1 b1 g1 k ∨ w.heap.size ≤ k) (s : Same (FootG T1 l1 b1 g1) w w') : Two lo w0 w' T' l' c' b1 g' r' T2 l2 c2 b2 g2 r2 := by
  have z := h.bl.size
  have z0 := h.sz
  refine ⟨G, h.b.kept s fun k hk h' => h.dj k h' hk, fun k hk h' => ?_, fun k hk => ?_, h.lob, h.bl.trans (s.below (by omega) h.loa), h.sz⟩
  · rcases hf k hk with h1 | h1
    · exact h.dj k h1 h'
    · have := h.b.lt h'; omega
  · rcases hf k hk with h1 | h1
    · exact h.loa k h1
    · omega

theorem two_seed {w1 w2 w3 w4 w5 : World} {sa sb : Value} (h2 : Holds 0 w2 (seedTr w1.heap.size sa 6)) (f2 : ∀ k, Foot (seedTr w1.heap.size sa 6) k → w1.heap.size ≤ k) (s2 : Same (fun _ => False) w1 w2)
    (h3 : Holds 0 w3 (seedTr w2.heap.size sb 6)) (f3 : ∀ k, Foot (seedTr w2.heap.size sb 6) k → w2.heap.size ≤ k) (s3 : Same (fun _ => False) w2 w3)
    (r4 : RefH w4 w3.heap.size (w3.heap.size + 2) 1 1 (fun _ => none) (fun _ => 6) (fun _ => 0)) (s4 : Same (fun k => k = w3.heap.size) ((w3.alloc (.cells #[.slice none 0 0] 31)).alloc (.cells #[.slice none 0 0] 31)) w4)
    (r5 : RefH w5 (w3.heap.size + 1) w4.heap.size 1 1 (fun _ => none) (fun _ => 6) (fun _ => 0)) (s5 : Same (fun k => k = w3.heap.size + 1) w4 w5) :
    Two w1.heap.size w1 ((w5.alloc (.cells #[.pointer (some ⟨w1.heap.size + 2, 0, none⟩)] 24)).alloc (.cells #[.pointer (some ⟨w2.heap.size + 2, 0, none⟩)] 24))
      (seedTr w1.heap.size sa 6) w5.heap.size 1 w3.heap.size (w3.heap.size + 2) 1 (seedTr w2.heap.size sb 6) (w5.heap.size + 1) 1 (w3.heap.size + 1) w4.heap.size 1 := by
  have z2 := s2.size
  have z3 := s3.size
  have z4 := s4.size
  simp only [World.size_alloc] at z4
  have z4' : w3.heap.size + 2 < w4.heap.size := by obtain ⟨c, hc, _⟩ := r4.cur; exact lt_of_heap hc
  have z5 := s5.size
  have z5' : w4.heap.size < w5.heap.size := by obtain ⟨c, hc, _⟩ := r5.cur; exact lt_of_heap hc
  have la : ∀ k, Foot (seedTr w1.heap.size sa 6) k → k < w2.heap.size := fun k hk => h2.lt hk
  have lb : ∀ k, Foot (seedTr w2.heap.size sb 6) k → k < w3.heap.size := fun k hk => h3.lt hk
  have al : ∀ (w : World) (o : Obj), Same (fun _ => False) w (w.alloc o) := fun w o => (Same.refl _ w).alloc o
  have ha3 := h2.kept s3 fun _ _ h => h
  have ha4 := ((ha3.kept (al _ _) fun _ _ h => h).kept (al _ _) fun _ _ h => h).kept s4 fun k hk e => by have := la k hk; omega
  have ha5 := ha4.kept s5 fun k hk e => by have := la k hk; omega
  have hb4 := ((h3.kept (al _ _) fun _ _ h => h).kept (al _ _) fun _ _ h => h).kept s4 fun k hk e => by have := lb k hk; omega
  have hb5 := hb4.kept s5 fun k hk e => by have := lb k hk; omega
  have ra5 := r4.kept s5 (by omega) (by omega)
  have la6 := World.ownsRow.alloc (row_one w5 (.pointer (some ⟨w1.heap.size + 2, 0, none⟩)) 24) (.cells #[.pointer (some ⟨w2.heap.size + 2, 0, none⟩)] 24)
  have lb6 := row_one (w5.alloc (.cells #[.pointer (some ⟨w1.heap.size + 2, 0, none⟩)] 24)) (.pointer (some ⟨w2.heap.size + 2, 0, none⟩)) 24
  rw [World.size_alloc] at lb6
  refine ⟨⟨(ha5.kept (al _ _) fun _ _ h => h).kept (al _ _) fun _ _ h => h, fun k _ => ⟨by simp [seedTr], by simp [seedTr]⟩, fun k p _ hp => (by cases hp), Nat.le_refl _, (by show 1 ≤ 256; omega), fun k k0 hk => (by have hk : k < 1 := hk; omega), la6, (ra5.kept (al _ _) (fun h => h) (fun h => h)).kept (al _ _) (fun h => h) (fun h => h), fun e => ?_⟩,
    ⟨(hb5.kept (al _ _) fun _ _ h => h).kept (al _ _) fun _ _ h => h, fun k _ => ⟨by simp [seedTr], by simp [seedTr]⟩, fun k p _ hp => (by cases hp), Nat.le_refl _, (by show 1 ≤ 256; omega), fun k k0 hk => (by have hk : k < 1 := hk; omega), lb6, (r5.kept (al _ _) (fun h => h) (fun h => h)).kept (al _ _) (fun h => h) (fun h => h), fun e => ?_⟩, ?_, ?_, ?_, ?_, Nat.le_refl _⟩
  · have := la _ (.inr (.inl e)); omega
  · have := lb _ (.inr (.inl e)); omega
  · rintro k (hk | rfl | rfl | rfl) (hk' | h' | h' | h')
    all_goals try omega
    all_goals first
      | (have := la k hk; have := f3 k hk'; omega)
      | (have := la k hk; omega)
      | (have := lb _ hk'; omega)
  · rintro k (hk | rfl | rfl | rfl)
    · exact f2 k hk
    all_goals omega
  · rintro k (hk | rfl | rfl | rfl)
    · have := f3 k hk; omega
    all_goals omega
  · have y2 := s2.below (B := w1.heap.size) (Nat.le_refl _) (fun _ h => h.elim)
    have y3 := s3.below (B := w1.heap.size) z2 (fun _ h => h.elim)
    have y4 := ((y2.trans y3).alloc (by omega) (.cells #[.slice none 0 0] 31)).alloc (by simp; omega) (.cells #[.slice none 0 0] 31)
    have y5 := (y4.trans (s4.below (by simp; omega) fun k hk => by omega)).trans (s5.below (by omega) fun k hk => by omega)
    exact (y5.alloc (by omega) _).alloc (by simp; omega) _
end Go.Proofs.Ytkkkndbfokjikab
