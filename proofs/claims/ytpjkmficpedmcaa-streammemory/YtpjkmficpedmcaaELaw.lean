/- What is proved: the calls on a space as a law sees them: what they answer, and that they turn no block of a set X; anchor answers true. -/
import Derived.Test.YtpjkmficpedmcaaEFree
namespace Go.Proofs.Ytpjkmficpedmcaa
open Go.RowKit
set_option maxRecDepth 100000

/-- A space lies in w, in no block of X. -/
def SpX (X : Nat → Prop) (w : World) (p N : Nat) (L : List Ex) : Prop := ∃ a hb c, Sp w p N L a hb c ∧ ¬ X hb ∧ ¬ X p
theorem SpX.wf {X : Nat → Prop} {w : World} {p N : Nat} {L : List Ex} (h : SpX X w p N L) : eWF 0 N L := by
  obtain ⟨a, hb, c, h, _⟩ := h
  exact h.wf
theorem SpX.small {X : Nat → Prop} {w : World} {p N : Nat} {L : List Ex} (h : SpX X w p N L) : N ≤ 4096 := by
  obtain ⟨a, hb, c, h, _⟩ := h
  exact h.small
theorem SpX.on {X : Nat → Prop} {w w' : World} {p N : Nat} {L : List Ex} (h : SpX X w p N L) (k : Kept w w') : SpX X w' p N L := by
  obtain ⟨a, hb, c, h, h1, h2⟩ := h
  exact ⟨a, hb, c, h.kept0 k, h1, h2⟩
theorem SpX.mono {X Y : Nat → Prop} {w : World} {p N : Nat} {L : List Ex} (h : SpX X w p N L) (hY : ∀ k, k < w.heap.size → Y k → X k) : SpX Y w p N L := by
  obtain ⟨a, hb, c, h, h1, h2⟩ := h
  exact ⟨a, hb, c, h, fun e => h1 (hY _ h.ltb e), fun e => h2 (hY _ h.lt e)⟩
/-- A new variable beside it. -/
theorem SpX.box {X : Nat → Prop} {w : World} {p N : Nat} {L : List Ex} (h : SpX X w p N L) (o : Obj) : SpX (fun k => X k ∨ k = w.heap.size) (w.alloc o) p N L :=
  (h.mono (Y := fun k => X k ∨ k = w.heap.size) fun k hk e => e.elim id fun e => by omega).on ((Same.refl _ w).alloc o)
theorem SpX.unbox {X : Nat → Prop} {w : World} {p N g : Nat} {L : List Ex} (h : SpX (fun k => X k ∨ k = g) w p N L) : SpX X w p N L := h.mono fun _ _ e => .inl e
/-- What a call leaves that may turn the space. -/
def Tu (X : Nat → Prop) (w : World) (p N : Nat) (L : List Ex) (w' : World) : Prop := SpX X w' p N L ∧ Same (fun k => ¬ X k) w w'
theorem Tu.keep {X : Nat → Prop} {w w' : World} {p N : Nat} {L : List Ex} (h : SpX X w p N L) (k : Kept w w') : Tu X w p N L w' := ⟨h.on k, k.to _⟩
theorem Tu.of {X : Nat → Prop} {w w' : World} {p N : Nat} {L : List Ex} {hb : Nat} (hX : ∀ k, X k → k < w.heap.size) (h1 : ¬ X hb) (h2 : ¬ X p) (h : Upd w p N hb L w') : Tu X w p N L w' := by
  obtain ⟨a', hb', c', q1, q2, q3⟩ := h
  refine ⟨⟨a', hb', c', q1, ?_, h2⟩, q3.mono fun k _ e => ?_⟩
  · rcases q2 with rfl | q
    · exact h1
    · exact fun e => by have := hX _ e; omega
  · rcases e with rfl | rfl
    · exact h2
    · exact h1

/-- Within the space. -/
def Has (N : Nat) (x : Ex) : Prop := 1 ≤ x.c ∧ 0 ≤ x.f ∧ x.c ≤ N - x.f
instance (N : Nat) (x : Ex) : Decidable (Has N x) := by unfold Has; infer_instance
def TakeX (X : Nat → Prop) (w : World) (p N : Nat) (L : List Ex) (x : Ex) (r : Ending) (w' : World) : Prop :=
  ∃ e L', r = .returned (.int .i64 e) ∧ Tu X w p N L' w' ∧ ((¬ Has N x ∧ e = 43 ∧ L' = L) ∨ (Has N x ∧ ¬ AllF x L ∧ e = 45 ∧ L' = L) ∨ (Has N x ∧ AllF x L ∧ e = 0 ∧ ∀ b, Mm b L' ↔ Mm b L ∧ ¬ (x.f ≤ b ∧ b < x.f + x.c)))
def FreeX (X : Nat → Prop) (w : World) (p N : Nat) (L : List Ex) (x : Ex) (r : Ending) (w' : World) : Prop :=
  ∃ e L', r = .returned (.int .i64 e) ∧ Tu X w p N L' w' ∧ ((¬ Has N x ∧ e = 43 ∧ L' = L) ∨ (Has N x ∧ ¬ NoneF x L ∧ e = 44 ∧ L' = L) ∨ (Has N x ∧ NoneF x L ∧ e = 0 ∧ ∀ b, Mm b L' ↔ Mm b L ∨ (x.f ≤ b ∧ b < x.f + x.c)))
theorem free_x {X : Nat → Prop} {w : World} {p N : Nat} {L : List Ex} (hX : ∀ k, X k → k < w.heap.size) (h : SpX X w p N L) (x : Ex) (hf : x.f ≤ 9223372036854775807) :
    Calls Try.prog 40 #[.pointer (some ⟨p, 0, none⟩), exV x] w fun r w' => FreeX X w p N L x r w' := by
  have h' := h
  obtain ⟨a, hb, c, h, h1, h2⟩ := h
  refine Calls.mono (free_any h x hf) ?_
  rintro r w' (⟨q1, q2, q3⟩ | ⟨q1, q2, q3, q4⟩ | ⟨q1, q2, q3, L', q4, q5⟩)
  · exact ⟨_, L, q2, Tu.keep h' q3, .inl ⟨q1, rfl, rfl⟩⟩
  · exact ⟨_, L, q3, Tu.keep h' q4, .inr (.inl ⟨q1, q2, rfl, rfl⟩)⟩
  · exact ⟨_, L', q3, Tu.of hX h1 h2 q4, .inr (.inr ⟨q1, q2, rfl, q5⟩)⟩
/-- The lowest hole that has so many blocks. -/
def First (L : List Ex) (n : Int) (f : Int) : Prop := ∃ (i : Nat) (h : Ex), L[i]? = some h ∧ (∀ e ∈ L.take i, e.c < n) ∧ n ≤ h.c ∧ f = h.f
def AllocX (X : Nat → Prop) (w : World) (p N : Nat) (L : List Ex) (count : Int) (r : Ending) (w' : World) : Prop :=
  ∃ f n e L', r = .returned (.tuple #[.agg #[.int .i64 f, .int .i64 n], .int .i64 e]) ∧ Tu X w p N L' w' ∧
    ((count < 1 ∧ e = 41 ∧ f = 0 ∧ n = 0 ∧ L' = L) ∨ (1 ≤ count ∧ (∀ e ∈ L, e.c < count) ∧ e = 42 ∧ f = 0 ∧ n = 0 ∧ L' = L) ∨ (1 ≤ count ∧ First L count f ∧ e = 0 ∧ n = count ∧ ∀ b, Mm b L' ↔ Mm b L ∧ ¬ (f ≤ b ∧ b < f + count)))
theorem alloc_x {X : Nat → Prop} {w : World} {p N : Nat} {L : List Ex} (hX : ∀ k, X k → k < w.heap.size) (h : SpX X w p N L) (count : Int) :
    Calls Try.prog 29 #[.pointer (some ⟨p, 0, none⟩), .int .i64 count] w fun r w' => AllocX X w p N L count r w' := by
  have h' := h
  obtain ⟨a, hb, c, h, h1, h2⟩ := h
  refine Calls.mono (alloc_any h count) ?_
  rintro r w' (⟨q1, q2, q3⟩ | ⟨q1, q2, q3, q4⟩ | ⟨q1, i, g, L', q2, q3, q4, q5, q6, q7⟩)
  · exact ⟨_, _, _, L, q2, Tu.keep h' q3, .inl ⟨q1, rfl, rfl, rfl, rfl⟩⟩
  · exact ⟨_, _, _, L, q3, Tu.keep h' q4, .inr (.inl ⟨q1, q2, rfl, rfl, rfl, rfl⟩)⟩
  · exact ⟨_, _, _, L', q5, Tu.of hX h1 h2 q6, .inr (.inr ⟨q1, ⟨i, g, q2, q3, q4, rfl⟩, rfl, rfl, q7⟩)⟩
def NewX (w : World) (N : Nat) (r : Ending) (w' : World) : Prop :=
  ∃ p L, r = .returned (.tuple #[.pointer (some ⟨p, 0, none⟩), .int .i64 0]) ∧ SpX (fun k => k < w.heap.size) w' p N L ∧ (∀ b, Mm b L ↔ 0 ≤ b ∧ b < N) ∧ Kept w w'
theorem new_x (N : Nat) (hN : N ≤ 4096) (w : World) : Calls Try.prog 6 #[.int .i64 (N : Int)] w fun r w' => NewX w N r w' := by
  refine Calls.mono (enew_yes N hN w) ?_
  rintro r w' ⟨p, L, a, hb, c, h1, h2, h3, h4, h5, h6⟩
  exact ⟨p, L, h1, ⟨a, hb, c, h2, by show ¬ _ < _; omega, by show ¬ _ < _; omega⟩, h3, h6⟩

theorem wf_one {N : Nat} {L : List Ex} (hL : eWF 0 N L) (f c : Int) (h0 : 0 ≤ f) (h1 : 1 ≤ c) (h2 : f + c ≤ N) (h : ∀ b, Mm b L ↔ f ≤ b ∧ b < f + c) : L = [⟨f, c⟩] :=
  wf_eq hL (B := [⟨f, c⟩]) ⟨h0, h1, h2, trivial⟩ fun b => by rw [h b, mm_one]

end Go.Proofs.Ytpjkmficpedmcaa
