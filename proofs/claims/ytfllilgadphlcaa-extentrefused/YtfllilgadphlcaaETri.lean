/- What is proved: two spaces and the document's space beside one another: what a call on the one leaves of the others; no condition. -/
import Derived.Test.YtfllilgadphlcaaEStepW
namespace Go.Proofs.Ytfllilgadphlcaa
open Go.RowKit

/-- Two spaces, at p and t, and the document's, in no block of X. -/
def Tri (X : Nat → Prop) (w : World) (p t q g N : Nat) (L M : List Ex) (U : Nat → Bool) : Prop :=
  ∃ a hb c, Sp w t N M a hb c ∧ ¬ (X hb ∨ hb = q ∨ hb = g) ∧ ¬ (X t ∨ t = q ∨ t = g) ∧ SpX (fun k => (X k ∨ k = q ∨ k = g) ∨ k = t ∨ k = hb) w p N L ∧ RS w q g N U ∧ ¬ X q ∧ ¬ X g
theorem Tri.on {X : Nat → Prop} {w w' : World} {p t q g N : Nat} {L M : List Ex} {U : Nat → Bool} (h : Tri X w p t q g N L M U) (k : Kept w w') : Tri X w' p t q g N L M U := by
  obtain ⟨a, hb, c, h1, h2, h3, h4, h5, h6, h7⟩ := h
  exact ⟨a, hb, c, h1.kept0 k, h2, h3, h4.on k, h5.on k, h6, h7⟩
theorem Tri.swap {X : Nat → Prop} {w : World} {p t q g N : Nat} {L M : List Ex} {U : Nat → Bool} (h : Tri X w p t q g N L M U) : Tri X w t p q g N M L U := by
  obtain ⟨a, hb, c, h1, h2, h3, ⟨a', hb', c', g1, g2, g3⟩, h5, h6, h7⟩ := h
  refine ⟨a', hb', c', g1, fun e => g2 (.inl e), fun e => g3 (.inl e), ⟨a, hb, c, h1, ?_, ?_⟩, h5, h6, h7⟩
  · rintro (e | e | e)
    · exact h2 e
    · exact g3 (.inr (.inr e.symm))
    · exact g2 (.inr (.inr e.symm))
  · rintro (e | e | e)
    · exact h3 e
    · exact g3 (.inr (.inl e.symm))
    · exact g2 (.inr (.inl e.symm))
theorem Tri.box {X : Nat → Prop} {w : World} {p t q g N : Nat} {L M : List Ex} {U : Nat → Bool} (h : Tri X w p t q g N L M U) (o : Obj) : Tri (fun k => X k ∨ k = w.heap.size) (w.alloc o) p t q g N L M U := by
  obtain ⟨a, hb, c, h1, h2, h3, h4, h5, h6, h7⟩ := h
  have l1 := h1.ltb
  have l2 := h1.lt
  have l3 := lt_of_heap h5.obj
  have l4 := h5.row.lt
  have k := (Same.refl (fun _ => False) w).alloc o
  refine ⟨a, hb, c, h1.kept0 k, ?_, ?_, ?_, h5.on k, ?_, ?_⟩
  · rintro ((e | e) | e)
    · exact h2 (.inl e)
    · omega
    · exact h2 (.inr e)
  · rintro ((e | e) | e)
    · exact h3 (.inl e)
    · omega
    · exact h3 (.inr e)
  · refine (h4.mono fun k hk e => ?_).on k
    rcases e with ((e | e) | e) | e
    · exact .inl (.inl e)
    · omega
    · exact .inl (.inr e)
    · exact .inr e
  · rintro (e | e)
    · exact h6 e
    · omega
  · rintro (e | e)
    · exact h7 e
    · omega
theorem Tri.mono {X Y : Nat → Prop} {w : World} {p t q g N : Nat} {L M : List Ex} {U : Nat → Bool} (h : Tri X w p t q g N L M U) (hY : ∀ k, Y k → X k) : Tri Y w p t q g N L M U := by
  obtain ⟨a, hb, c, h1, h2, h3, h4, h5, h6, h7⟩ := h
  exact ⟨a, hb, c, h1, fun e => h2 (e.imp (hY _) id), fun e => h3 (e.imp (hY _) id), h4.mono fun k _ e => e.imp (fun e => e.imp (hY _) id) id, h5, fun e => h6 (hY _ e), fun e => h7 (hY _ e)⟩
/-- A call on the first space. -/
theorem Tri.s {X : Nat → Prop} {w : World} {p t q g N : Nat} {L M : List Ex} {U : Nat → Bool} (h : Tri X w p t q g N L M U) (hX : ∀ k, X k → k < w.heap.size) :
    ∃ Y, SpX Y w p N L ∧ (∀ k, Y k → k < w.heap.size) ∧ ∀ w' L', Tu Y w p N L' w' → Tri X w' p t q g N L' M U ∧ Same (fun k => ¬ X k) w w' := by
  obtain ⟨a, hb, c, h1, h2, h3, h4, h5, h6, h7⟩ := h
  refine ⟨_, h4, ?_, ?_⟩
  · rintro k ((e | e | e) | e | e)
    · exact hX k e
    · rw [e]; exact lt_of_heap h5.obj
    · rw [e]; exact h5.row.lt
    · rw [e]; exact h1.lt
    · rw [e]; exact h1.ltb
  · rintro w' L' ⟨s, k⟩
    refine ⟨⟨a, hb, c, h1.kept k (fun e => e (.inr (.inl rfl))) (fun e => e (.inr (.inr rfl))), h2, h3, s, h5.kept k (fun e => e (.inl (.inr (.inl rfl)))) (fun e => e (.inl (.inr (.inr rfl)))), h6, h7⟩, k.mono fun k _ e hx => e (.inl (.inl hx))⟩
/-- The first space and the document's. -/
theorem Tri.both {X : Nat → Prop} {w : World} {p t q g N : Nat} {L M : List Ex} {U : Nat → Bool} (h : Tri X w p t q g N L M U) (hX : ∀ k, X k → k < w.heap.size) (ag : Ag U N L) :
    ∃ Y, Both Y w p q g N L U ∧ (∀ k, Y k → k < w.heap.size) ∧ ∀ w' L' V, Both Y w' p q g N L' V → Same (fun k => ¬ Y k) w w' → Tri X w' p t q g N L' M V ∧ Same (fun k => ¬ X k) w w' := by
  obtain ⟨a, hb, c, h1, h2, h3, h4, h5, h6, h7⟩ := h
  refine ⟨fun k => X k ∨ k = t ∨ k = hb, ⟨h4.mono fun k _ e => ?_, h5, ?_, ?_, ag⟩, ?_, ?_⟩
  · rcases e with (e | e) | e
    · exact .inl (.inl e)
    · exact .inr e
    · exact .inl (.inr e)
  · rintro (e | e | e)
    · exact h6 e
    · exact h3 (.inr (.inl e.symm))
    · exact h2 (.inr (.inl e.symm))
  · rintro (e | e | e)
    · exact h7 e
    · exact h3 (.inr (.inr e.symm))
    · exact h2 (.inr (.inr e.symm))
  · rintro k (e | e | e)
    · exact hX k e
    · rw [e]; exact h1.lt
    · rw [e]; exact h1.ltb
  · intro w' L' V hb' k
    refine ⟨⟨a, hb, c, h1.kept k (fun e => e (.inr (.inl rfl))) (fun e => e (.inr (.inr rfl))), h2, h3, hb'.sp.mono fun k _ e => ?_, hb'.rs, h6, h7⟩, k.mono fun k _ e hx => e (.inl hx)⟩
    rcases e with (e | e) | e
    · exact .inl (.inl e)
    · exact .inr e
    · exact .inl (.inr e)

/-- Calls on the first of two spaces. -/
theorem alloc_t {X : Nat → Prop} {w : World} {p t q g N : Nat} {L M : List Ex} {U : Nat → Bool} (h : Tri X w p t q g N L M U) (hX : ∀ k, X k → k < w.heap.size) (n : Int) :
    Calls Try.prog 15 #[.pointer (some ⟨p, 0, none⟩), .int .i64 n] w fun r w' => ∃ v L', r = .returned v ∧ AllocR L n L' ∧ WF 0 N L' ∧ Tri X w' p t q g N L' M U ∧ Same (fun k => ¬ X k) w w' := by
  obtain ⟨Y, y1, y2, y3⟩ := h.s hX
  refine Calls.mono (alloc_x y2 y1 n) ?_
  rintro r w' ⟨f, m, e, L', rfl, ht, hc⟩
  obtain ⟨z1, z2⟩ := y3 _ _ ht
  refine ⟨_, L', rfl, ?_, ht.1.wf, z1, z2⟩
  rcases hc with ⟨c1, _, _, _, rfl⟩ | ⟨_, c2, _, _, _, rfl⟩ | ⟨c1, c2, _, _, c3⟩
  · exact .inl ⟨rfl, .inl c1⟩
  · exact .inl ⟨rfl, .inr c2⟩
  · exact .inr ⟨c1, f, c2, c3⟩
def Err (A : Prop) (e : Int) : Prop := (e = 0 ∧ A) ∨ (e ≠ 0 ∧ ¬ A)
theorem take_t {X : Nat → Prop} {w : World} {p t q g N : Nat} {L M : List Ex} {U : Nat → Bool} (h : Tri X w p t q g N L M U) (hX : ∀ k, X k → k < w.heap.size) (x : Ex) (hf : x.f ≤ 9223372036854775807) :
    Calls Try.prog 19 #[.pointer (some ⟨p, 0, none⟩), exV x] w fun r w' => ∃ e L', r = .returned (.int .i64 e) ∧ Err (Has N x ∧ AllF x L) e ∧ TakeR N L x L' ∧ WF 0 N L' ∧ Tri X w' p t q g N L' M U ∧ Same (fun k => ¬ X k) w w' := by
  obtain ⟨Y, y1, y2, y3⟩ := h.s hX
  refine Calls.mono (take_x y2 y1 x hf) ?_
  rintro r w' ⟨e, L', rfl, ht, hc⟩
  obtain ⟨z1, z2⟩ := y3 _ _ ht
  refine ⟨e, L', rfl, ?_, ?_, ht.1.wf, z1, z2⟩
  · rcases hc with ⟨c1, rfl, rfl⟩ | ⟨_, c2, rfl, rfl⟩ | ⟨c1, c2, rfl, c3⟩
    · exact .inr ⟨by decide, fun h => c1 h.1⟩
    · exact .inr ⟨by decide, fun h => c2 h.2⟩
    · exact .inl ⟨rfl, c1, c2⟩
  · rcases hc with ⟨c1, rfl, rfl⟩ | ⟨_, c2, rfl, rfl⟩ | ⟨c1, c2, rfl, c3⟩
    · exact .inl ⟨rfl, fun h => c1 h.1⟩
    · exact .inl ⟨rfl, fun h => c2 h.2⟩
    · exact .inr ⟨c1, c2, c3⟩
theorem free_t {X : Nat → Prop} {w : World} {p t q g N : Nat} {L M : List Ex} {U : Nat → Bool} (h : Tri X w p t q g N L M U) (hX : ∀ k, X k → k < w.heap.size) (x : Ex) (hf : x.f ≤ 9223372036854775807) :
    Calls Try.prog 16 #[.pointer (some ⟨p, 0, none⟩), exV x] w fun r w' => ∃ e L', r = .returned (.int .i64 e) ∧ Err (Has N x ∧ NoneF x L) e ∧ FreeR N L x L' ∧ WF 0 N L' ∧ Tri X w' p t q g N L' M U ∧ Same (fun k => ¬ X k) w w' := by
  obtain ⟨Y, y1, y2, y3⟩ := h.s hX
  refine Calls.mono (free_x y2 y1 x hf) ?_
  rintro r w' ⟨e, L', rfl, ht, hc⟩
  obtain ⟨z1, z2⟩ := y3 _ _ ht
  refine ⟨e, L', rfl, ?_, ?_, ht.1.wf, z1, z2⟩
  · rcases hc with ⟨c1, rfl, rfl⟩ | ⟨_, c2, rfl, rfl⟩ | ⟨c1, c2, rfl, c3⟩
    · exact .inr ⟨by decide, fun h => c1 h.1⟩
    · exact .inr ⟨by decide, fun h => c2 h.2⟩
    · exact .inl ⟨rfl, c1, c2⟩
  · rcases hc with ⟨c1, rfl, rfl⟩ | ⟨_, c2, rfl, rfl⟩ | ⟨c1, c2, rfl, c3⟩
    · exact .inl ⟨rfl, fun h => c1 h.1⟩
    · exact .inl ⟨rfl, fun h => c2 h.2⟩
    · exact .inr ⟨c1, c2, c3⟩
/-- Given back what was taken, and taken what was given back. -/
theorem take_free {N : Nat} {L A B : List Ex} {x : Ex} (hL : WF 0 N L) (hB : WF 0 N B) (h : Has N x ∧ AllF x L) (a : TakeR N L x A) (b : FreeR N A x B) : B = L := by
  rcases a with ⟨rfl, a⟩ | ⟨_, _, a⟩
  · exact absurd h a
  · rcases b with ⟨rfl, b⟩ | ⟨_, _, b⟩
    · exact absurd ⟨h.1, fun y y1 y2 hy => ((a y).1 hy).2 ⟨y1, y2⟩⟩ b
    · refine wf_eq hB hL fun y => ?_
      rw [b, a]
      by_cases q : x.f ≤ y ∧ y < x.f + x.c
      · exact ⟨fun _ => h.2 y q.1 q.2, fun _ => .inr q⟩
      · exact ⟨fun e => e.elim (·.1) fun e => absurd e q, fun e => .inl ⟨e, q⟩⟩
theorem free_take {N : Nat} {L A B : List Ex} {x : Ex} (hL : WF 0 N L) (hB : WF 0 N B) (h : Has N x ∧ NoneF x L) (a : FreeR N L x A) (b : TakeR N A x B) : B = L := by
  rcases a with ⟨rfl, a⟩ | ⟨_, _, a⟩
  · exact absurd h a
  · rcases b with ⟨rfl, b⟩ | ⟨_, _, b⟩
    · exact absurd ⟨h.1, fun y y1 y2 => (a y).2 (.inr ⟨y1, y2⟩)⟩ b
    · refine wf_eq hB hL fun y => ?_
      rw [b, a]
      by_cases q : x.f ≤ y ∧ y < x.f + x.c
      · exact ⟨fun e => absurd q e.2, fun e => absurd e (h.2 y q.1 q.2)⟩
      · exact ⟨fun e => e.1.elim id fun e => absurd e q, fun e => ⟨.inl e, q⟩⟩
theorem TakeR.no {N : Nat} {L A : List Ex} {x : Ex} (a : TakeR N L x A) (h : ¬ (Has N x ∧ AllF x L)) : A = L := by
  rcases a with ⟨rfl, _⟩ | ⟨a, b, _⟩
  · rfl
  · exact absurd ⟨a, b⟩ h
theorem FreeR.no {N : Nat} {L A : List Ex} {x : Ex} (a : FreeR N L x A) (h : ¬ (Has N x ∧ NoneF x L)) : A = L := by
  rcases a with ⟨rfl, _⟩ | ⟨a, b, _⟩
  · rfl
  · exact absurd ⟨a, b⟩ h
theorem AllocR.no {L A : List Ex} {n : Int} (a : AllocR L n A) (h : n < 1 ∨ big L < n) : A = L := by
  rcases a with ⟨rfl, _⟩ | ⟨a, f, ⟨i, e, b, _, c, _⟩, _⟩
  · rfl
  · have := big_ge (List.mem_of_getElem? b)
    omega
end Go.Proofs.Ytfllilgadphlcaa
