/- What is proved: one step of a script, carried out on the space and on the document's space: the law's step answers true, and both have the same holes behind it. -/
import Derived.Test.YtfllilgadphlcaaETell
import Derived.Test.YtfllilgadphlcaaEMemM
namespace Go.Proofs.Ytfllilgadphlcaa
open Go.RowKit

theorem first_one {L : List Ex} {n f f' : Int} (h : First L n f) (h' : First L n f') : f = f' := by
  obtain ⟨i, e, a1, a2, a3, rfl⟩ := h
  obtain ⟨i', e', b1, b2, b3, rfl⟩ := h'
  have key : ∀ {i j : Nat} {e : Ex}, L[i]? = some e → n ≤ e.c → (∀ x ∈ L.take j, x.c < n) → ¬ i < j := fun {i j e} q1 q2 q3 hl => by
    have := q3 e (List.mem_of_getElem? (show (L.take j)[i]? = some e by rw [List.getElem?_take_of_lt hl]; exact q1))
    omega
  have h1 := key a1 a3 b2
  have h2 := key b1 b3 a2
  obtain rfl : i = i' := by omega
  rw [a1] at b1
  cases b1
  rfl
theorem first_not {L : List Ex} {n f : Int} (h : First L n f) (hn : ∀ e ∈ L, e.c < n) : False := by
  obtain ⟨i, e, a1, _, a3, _⟩ := h
  have := hn e (List.mem_of_getElem? a1)
  omega

/-- What a step makes of the holes. -/
def AllocR (L : List Ex) (n : Int) (L' : List Ex) : Prop :=
  (L' = L ∧ (n < 1 ∨ ∀ e ∈ L, e.c < n)) ∨ (1 ≤ n ∧ ∃ f, First L n f ∧ ∀ b, Mm b L' ↔ Mm b L ∧ ¬ (f ≤ b ∧ b < f + n))
def TakeR (N : Nat) (L : List Ex) (x : Ex) (L' : List Ex) : Prop :=
  (L' = L ∧ ¬ (Has N x ∧ AllF x L)) ∨ (Has N x ∧ AllF x L ∧ ∀ b, Mm b L' ↔ Mm b L ∧ ¬ (x.f ≤ b ∧ b < x.f + x.c))
def FreeR (N : Nat) (L : List Ex) (x : Ex) (L' : List Ex) : Prop :=
  (L' = L ∧ ¬ (Has N x ∧ NoneF x L)) ∨ (Has N x ∧ NoneF x L ∧ ∀ b, Mm b L' ↔ Mm b L ∨ (x.f ≤ b ∧ b < x.f + x.c))
theorem AllocR.one {N : Nat} {L A B : List Ex} {n : Int} (hA : WF 0 N A) (hB : WF 0 N B) (a : AllocR L n A) (b : AllocR L n B) : A = B := by
  rcases a with ⟨rfl, a⟩ | ⟨a0, f, a1, a2⟩ <;> rcases b with ⟨rfl, b⟩ | ⟨b0, f', b1, b2⟩
  · rfl
  · rcases a with a | a
    · omega
    · exact (first_not b1 a).elim
  · rcases b with b | b
    · omega
    · exact (first_not a1 b).elim
  · obtain rfl := first_one a1 b1
    exact wf_eq hA hB fun x => by rw [a2, b2]
theorem TakeR.one {N : Nat} {L A B : List Ex} {x : Ex} (hA : WF 0 N A) (hB : WF 0 N B) (a : TakeR N L x A) (b : TakeR N L x B) : A = B := by
  rcases a with ⟨rfl, a⟩ | ⟨a0, a1, a2⟩ <;> rcases b with ⟨rfl, b⟩ | ⟨b0, b1, b2⟩
  · rfl
  · exact absurd ⟨b0, b1⟩ a
  · exact absurd ⟨a0, a1⟩ b
  · exact wf_eq hA hB fun x => by rw [a2, b2]
theorem FreeR.one {N : Nat} {L A B : List Ex} {x : Ex} (hA : WF 0 N A) (hB : WF 0 N B) (a : FreeR N L x A) (b : FreeR N L x B) : A = B := by
  rcases a with ⟨rfl, a⟩ | ⟨a0, a1, a2⟩ <;> rcases b with ⟨rfl, b⟩ | ⟨b0, b1, b2⟩
  · rfl
  · exact absurd ⟨b0, b1⟩ a
  · exact absurd ⟨a0, a1⟩ b
  · exact wf_eq hA hB fun x => by rw [a2, b2]
structure StpR (N : Nat) (L : List Ex) (o : O3) (L' : List Ex) : Prop where
  k1 : o.k = 1 → AllocR L o.c L'
  k2 : o.k = 2 → TakeR N L ⟨o.f, o.c⟩ L'
  k3 : o.k = 3 → FreeR N L ⟨o.f, o.c⟩ L'
  k4 : o.k ≠ 1 → o.k ≠ 2 → o.k ≠ 3 → L' = L
theorem StpR.of1 {N : Nat} {L L' : List Ex} {o : O3} (hk : o.k = 1) (h : AllocR L o.c L') : StpR N L o L' := ⟨fun _ => h, fun e => absurd e (by omega), fun e => absurd e (by omega), fun e => absurd hk e⟩
theorem StpR.of2 {N : Nat} {L L' : List Ex} {o : O3} (hk : o.k = 2) (h : TakeR N L ⟨o.f, o.c⟩ L') : StpR N L o L' := ⟨fun e => absurd e (by omega), fun _ => h, fun e => absurd e (by omega), fun _ e => absurd hk e⟩
theorem StpR.of3 {N : Nat} {L L' : List Ex} {o : O3} (hk : o.k = 3) (h : FreeR N L ⟨o.f, o.c⟩ L') : StpR N L o L' := ⟨fun e => absurd e (by omega), fun e => absurd e (by omega), fun _ => h, fun _ _ e => absurd hk e⟩

theorem ag_take {U : Nat → Bool} {N : Nat} {L L' : List Ex} (h : Ag U N L) {f c : Nat} (hm : ∀ b, Mm b L' ↔ Mm b L ∧ ¬ ((f : Int) ≤ b ∧ b < (f : Int) + c)) : Ag (mk U f c true) N L' := fun b hb => by
  rw [hm b, ← h b hb]
  unfold mk
  by_cases q : f ≤ b ∧ b < f + c
  · rw [if_pos q]
    exact ⟨fun h => (by cases h), fun h => absurd (by omega) h.2⟩
  · rw [if_neg q]
    exact ⟨fun h => ⟨h, by omega⟩, fun h => h.1⟩
theorem ag_free {U : Nat → Bool} {N : Nat} {L L' : List Ex} (h : Ag U N L) {f c : Nat} (hm : ∀ b, Mm b L' ↔ Mm b L ∨ ((f : Int) ≤ b ∧ b < (f : Int) + c)) : Ag (mk U f c false) N L' := fun b hb => by
  rw [hm b, ← h b hb]
  unfold mk
  by_cases q : f ≤ b ∧ b < f + c
  · rw [if_pos q]
    exact ⟨fun _ => .inr (by omega), fun _ => rfl⟩
  · rw [if_neg q]
    exact ⟨fun h => .inl h, fun h => h.elim id fun h => absurd h (by omega)⟩
theorem Has.nat {N : Nat} {x : Ex} (h : Has N x) : x.f = (x.f.toNat : Int) ∧ x.c = (x.c.toNat : Int) ∧ x.f.toNat + x.c.toNat ≤ N := by
  obtain ⟨h1, h2, h3⟩ := h
  omega
theorem allF_used {U : Nat → Bool} {N : Nat} {L : List Ex} (h : Ag U N L) {x : Ex} (hh : Has N x) : AllF x L ↔ ∀ i, x.f.toNat ≤ i → i < x.f.toNat + x.c.toNat → U i = false := by
  obtain ⟨e1, e2, e3⟩ := hh.nat
  constructor
  · intro ha i i1 i2
    exact (h i (by omega)).2 (ha i (by omega) (by omega))
  · intro ha b b1 b2
    obtain ⟨n, rfl⟩ := Int.eq_ofNat_of_zero_le (show 0 ≤ b by omega)
    exact (h n (by omega)).1 (ha n (by omega) (by omega))
theorem noneF_used {U : Nat → Bool} {N : Nat} {L : List Ex} (h : Ag U N L) {x : Ex} (hh : Has N x) : NoneF x L ↔ ∀ i, x.f.toNat ≤ i → i < x.f.toNat + x.c.toNat → U i = true := by
  obtain ⟨e1, e2, e3⟩ := hh.nat
  constructor
  · intro ha i i1 i2
    cases hU : U i with
    | true => rfl
    | false => exact absurd ((h i (by omega)).1 hU) (ha i (by omega) (by omega))
  · intro ha b b1 b2 hm
    obtain ⟨n, rfl⟩ := Int.eq_ofNat_of_zero_le (show 0 ≤ b by omega)
    have := (h n (by omega)).2 hm
    rw [ha n (by omega) (by omega)] at this
    cases this

abbrev opV (o : O3) : Value := .agg #[.int .i64 o.k, .int .i64 o.f, .int .i64 o.c]
abbrev opO (o : O3) : Obj := .cells #[.int .i64 o.k, .int .i64 o.f, .int .i64 o.c] 32 (0, 0)
/-- What a step leaves. -/
def Step (X : Nat → Prop) (w : World) (p q g N : Nat) (L : List Ex) (o : O3) (w' : World) : Prop :=
  ∃ L' U', Both X w' p q g N L' U' ∧ Same (fun k => ¬ X k) w w' ∧ StpR N L o L'
theorem Step.keep {X : Nat → Prop} {w w' : World} {p q g N : Nat} {L : List Ex} {U : Nat → Bool} {o : O3} (h : Both X w p q g N L U) (k : Kept w w') (h1 : o.k ≠ 1) (h2 : o.k ≠ 2) (h3 : o.k ≠ 3) : Step X w p q g N L o w' :=
  ⟨L, U, h.on k, Kept.to k _, fun e => absurd e h1, fun e => absurd e h2, fun e => absurd e h3, fun _ _ _ => rfl⟩

/-- What the space's call leaves, and then the document's. -/
theorem both_of {X Y : Nat → Prop} {w w1 w2 w3 : World} {p q g N : Nat} {L L' : List Ex} {U V : Nat → Bool} (h : Both X w p q g N L U) (hY : ∀ k, (X k ∨ k = q ∨ k = g) → Y k) (k1 : Kept w w1) (hs : SpX Y w2 p N L') (k2 : Same (fun k => ¬ Y k) w1 w2)
    (rs : RS w3 q g N V) (k3 : Same (fun k => k = g) w2 w3) (ag : Ag V N L') : Both X w3 p q g N L' V ∧ Same (fun k => ¬ X k) w w3 := by
  refine ⟨⟨?_, rs, h.nq, h.ng, ag⟩, ?_⟩
  · exact (hs.stay k3 (fun k _ e => hY k (.inr (.inr e)))).mono fun k _ e => hY k e
  · refine ((Kept.to k1 _).trans' (k2.mono fun k _ e hx => e (hY k (.inl hx)))).trans' (k3.mono fun k _ e hx => ?_)
    subst e
    exact h.ng hx
end Go.Proofs.Ytfllilgadphlcaa
