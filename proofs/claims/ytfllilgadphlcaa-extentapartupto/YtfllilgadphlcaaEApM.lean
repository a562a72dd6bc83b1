/- What is proved: plain facts for ExtentApart: what is held and not yet given back, against the holes; the list of owners; no condition. -/
import Derived.Test.YtfllilgadphlcaaERefB
import Derived.Test.YtfllilgadphlcaaEMemM
namespace Go.Proofs.Ytfllilgadphlcaa
open Go.RowKit

/-- What is held: within the space, in no hole, and no two of it meet. -/
structure Hi (N : Nat) (L H : List Ex) : Prop where
  one : ∀ (i : Nat) e, H[i]? = some e → 0 < e.c → Has N e ∧ NoneF e L
  two : ∀ (i j : Nat) e e', i ≠ j → H[i]? = some e → H[j]? = some e' → 0 < e.c → 0 < e'.c → e.f + e.c ≤ e'.f ∨ e'.f + e'.c ≤ e.f
theorem Hi.nil (N : Nat) (L : List Ex) : Hi N L [] := ⟨fun i e h => by simp at h, fun i j e e' _ h => by simp at h⟩
theorem get_snoc {H : List Ex} {x e : Ex} {i : Nat} (h : (H ++ [x])[i]? = some e) : H[i]? = some e ∧ i < H.length ∨ i = H.length ∧ e = x := by
  rcases Nat.lt_or_ge i H.length with q | q
  · rw [List.getElem?_append_left q] at h
    exact .inl ⟨h, q⟩
  · rw [List.getElem?_append_right q] at h
    have := (List.getElem?_eq_some_iff.1 h).1
    simp at this
    have e1 : i = H.length := by omega
    subst e1
    simp at h
    exact .inr ⟨rfl, h.symm⟩
/-- One more. -/
theorem Hi.add {N : Nat} {L L' H : List Ex} {x : Ex} (h : Hi N L H) (hs : ∀ b, Mm b L' → Mm b L) (hx : 0 < x.c → Has N x ∧ AllF x L ∧ NoneF x L') : Hi N L' (H ++ [x]) := by
  have key : ∀ (i : Nat) e, H[i]? = some e → 0 < e.c → 0 < x.c → e.f + e.c ≤ x.f ∨ x.f + x.c ≤ e.f := fun i e he he' hx' => by
    obtain ⟨_, a⟩ := h.one i e he he'
    obtain ⟨_, b, _⟩ := hx hx'
    rcases Int.lt_or_le x.f (e.f + e.c) with q | q
    · rcases Int.lt_or_le e.f (x.f + x.c) with r | r
      · rcases Int.le_total e.f x.f with z | z
        · exact absurd (b x.f (Int.le_refl _) (by omega)) (a x.f z q)
        · exact absurd (b e.f z r) (a e.f (Int.le_refl _) (by omega))
      · exact .inr r
    · exact .inl q
  constructor
  · intro i e he hc
    rcases get_snoc he with ⟨g, _⟩ | ⟨_, rfl⟩
    · obtain ⟨a, b⟩ := h.one i e g hc
      exact ⟨a, fun y y1 y2 hy => b y y1 y2 (hs y hy)⟩
    · obtain ⟨a, _, b⟩ := hx hc
      exact ⟨a, b⟩
  · intro i j e e' hij he he' hc hc'
    rcases get_snoc he with ⟨g, _⟩ | ⟨g, rfl⟩ <;> rcases get_snoc he' with ⟨g', _⟩ | ⟨g', rfl⟩
    · exact h.two i j e e' hij g g' hc hc'
    · exact key i e g hc hc'
    · exact (key j e' g' hc' hc).symm
    · omega
/-- One is given back. -/
theorem Hi.back {N : Nat} {L L' H : List Ex} {k : Nat} {y : Ex} (h : Hi N L H) (hk : H[k]? = some y) (hy : 0 < y.c) (hm : ∀ b, Mm b L' ↔ Mm b L ∨ (y.f ≤ b ∧ b < y.f + y.c)) : Hi N L' (H.set k ⟨0, 0⟩) := by
  have get : ∀ {i : Nat} {e : Ex}, (H.set k ⟨0, 0⟩)[i]? = some e → 0 < e.c → i ≠ k ∧ H[i]? = some e := fun {i e} he hc => by
    rw [List.getElem?_set] at he
    by_cases q : k = i
    · rw [if_pos q] at he
      split at he
      · cases he
        exact absurd hc (by simp)
      · cases he
    · rw [if_neg q] at he
      exact ⟨fun e => q e.symm, he⟩
  constructor
  · intro i e he hc
    obtain ⟨q, g⟩ := get he hc
    obtain ⟨a, b⟩ := h.one i e g hc
    refine ⟨a, fun z z1 z2 hz => ?_⟩
    rcases (hm z).1 hz with r | r
    · exact b z z1 z2 r
    · have := h.two i k e y q g hk hc hy
      omega
  · intro i j e e' hij he he' hc hc'
    obtain ⟨_, g⟩ := get he hc
    obtain ⟨_, g'⟩ := get he' hc'
    exact h.two i j e e' hij g g' hc hc'

/-- Whose block it is. -/
def ow (L : List Ex) (b : Nat) : Int := if mmb L (b : Int) then 0 else 1
def mk1 (F : Nat → Int) (lo hi : Nat) (v : Int) (b : Nat) : Int := if lo ≤ b ∧ b < hi then v else F b
theorem ow_free {L : List Ex} {b : Nat} (h : Mm (b : Int) L) : ow L b = 0 := by
  unfold ow; rw [(mmb_iff _ _).2 h]; rfl
theorem ow_take {L L' : List Ex} {f n : Nat} (hm : ∀ b, Mm b L' ↔ Mm b L ∧ ¬ ((f : Int) ≤ b ∧ b < (f : Int) + n)) (b : Nat) : mk1 (ow L) f (f + n) 1 b = ow L' b := by
  unfold mk1
  have hb := hm b
  by_cases q : f ≤ b ∧ b < f + n
  · rw [if_pos q]
    have : ¬ Mm (b : Int) L' := fun h => (hb.1 h).2 (by omega)
    unfold ow
    cases hx : mmb L' (b : Int) with
    | true => exact absurd ((mmb_iff _ _).1 hx) this
    | false => rfl
  · rw [if_neg q]
    have e : mmb L (b : Int) = mmb L' (b : Int) := by
      rw [Bool.eq_iff_iff, mmb_iff, mmb_iff, hb]
      exact ⟨fun h => ⟨h, by omega⟩, fun h => h.1⟩
    unfold ow
    rw [e]
theorem ow_back {L L' : List Ex} {f n : Nat} (hm : ∀ b, Mm b L' ↔ Mm b L ∨ ((f : Int) ≤ b ∧ b < (f : Int) + n)) (b : Nat) : mk1 (ow L) f (f + n) 0 b = ow L' b := by
  unfold mk1
  have hb := hm b
  by_cases q : f ≤ b ∧ b < f + n
  · rw [if_pos q, ow_free (hb.2 (.inr (by omega)))]
  · rw [if_neg q]
    have e : mmb L (b : Int) = mmb L' (b : Int) := by
      rw [Bool.eq_iff_iff, mmb_iff, mmb_iff, hb]
      exact ⟨fun h => .inl h, fun h => h.elim id fun h => absurd h (by omega)⟩
    unfold ow
    rw [e]

/-- A list that is held in memory of its own, as a row. -/
theorem row_of_own {w : World} {base : Nat} {v : Value} {H : List Ex} (h : w.ownsRow base 40 2 v H.length (ecs H)) (hp : 0 < H.length) : ∃ g cap, v = .slice (some ⟨g, 0, none⟩) H.length cap ∧ base ≤ g ∧ cap ≤ maxLen ∧ Row w g cap H := by
  rcases h.2 with ⟨_, hn⟩ | ⟨g, cap, cur, rfl, hb, hg, h1, h2, h3, h4⟩
  · omega
  · refine ⟨g, cap, rfl, hb, h2, cur.toList, by unfold Blk; rw [hg], by simpa using h3, by omega, fun k hk => ?_⟩
    rw [← h4, List.getElem?_take_of_lt hk]
theorem own_of_row {w : World} {base g cap : Nat} {H : List Ex} (hb : base ≤ g) (hc : cap ≤ maxLen) (h : Row w g cap H) : w.ownsRow base 40 2 (.slice (some ⟨g, 0, none⟩) H.length cap) H.length (ecs H) := by
  obtain ⟨A, h1, h2, h3, h4⟩ := h
  refine ⟨by rw [length_ecs], .inr ⟨g, cap, A.toArray, rfl, hb, h1, h3, hc, by simpa using h2, ?_⟩⟩
  apply List.ext_getElem?
  intro k
  by_cases hk : k < H.length * 2
  · rw [List.getElem?_take_of_lt hk]
    exact h4 k hk
  · rw [List.getElem?_eq_none (by simp; omega), List.getElem?_eq_none (by rw [length_ecs]; omega)]
theorem own_block {g cap n : Nat} (k : Nat) : (Value.slice (some ⟨g, 0, none⟩) n cap).ownBlock = some k ↔ g = k := by simp [Value.ownBlock]
end Go.Proofs.Ytfllilgadphlcaa
