/- What is proved: plain facts: the document's operation reads a piece of the form as the operation that it writes, and what it reads is of the form; no condition. -/
import Derived.Test.YtlldgibpajbabaaDoorNoOx
import Derived.Test.YtlldgibpajbabaaDoorNoDb
namespace Go.Proofs.YtlldgibpajbabaaDoor
open Go.RowKit

theorem lead_at {f : UInt8 → Bool} : ∀ {l : List UInt8}, lead f l < l.length → ∃ b, f b = false ∧ l = l.take (lead f l) ++ b :: l.drop (lead f l + 1)
  | [], h => by simp at h
  | a :: l, h => by
    cases ha : f a with
    | false =>
      have e : lead f (a :: l) = 0 := by simp [lead, ha]
      exact ⟨a, ha, by rw [e]; rfl⟩
    | true =>
      have e : lead f (a :: l) = lead f l + 1 := by simp [lead, ha]
      rw [e] at h ⊢
      obtain ⟨b, hb, hl⟩ := lead_at (f := f) (l := l) (by simp at h; omega)
      refine ⟨b, hb, ?_⟩
      simp only [List.take_succ_cons, List.drop_succ_cons, List.cons_append]
      rw [← hl]
/-- The parts of a piece. -/
theorem op_parts {c : UInt8} (hc : c ≠ 41) {K : List UInt8} (hK : K.all (fun b => b != 41) = true) (Z : List UInt8) :
    upT (c :: 40 :: (K ++ 41 :: Z)) 0 41 = K.length + 2 ∧ opK (c :: 40 :: (K ++ 41 :: Z)) = K ∧ opZ (c :: 40 :: (K ++ 41 :: Z)) = Z ∧ ¬ upT (c :: 40 :: (K ++ 41 :: Z)) 0 41 = (c :: 40 :: (K ++ 41 :: Z)).length := by
  have e : upT (c :: 40 :: (K ++ 41 :: Z)) 0 41 = K.length + 2 := by
    have h := lead_stop (f := fun b => b != 41) (a := c :: 40 :: K) (r := 41 :: Z) (by simp only [List.all_cons, hK]; simp [hc]) (halt_cons (by decide) _)
    unfold upT
    simp only [List.drop_zero, Nat.zero_add]
    exact h.trans rfl
  refine ⟨e, ?_, ?_, ?_⟩
  · unfold opK
    rw [e]
    simp
  · unfold opZ
    rw [e]
    simp
  · rw [e]
    simp
theorem op_cut {c : UInt8} (hc : c ≠ 41) {q : List UInt8} (h : ¬ upT (c :: 40 :: q) 0 41 = (c :: 40 :: q).length) : c :: 40 :: q = c :: 40 :: (opK (c :: 40 :: q) ++ 41 :: opZ (c :: 40 :: q)) := by
  obtain ⟨h1, h2⟩ := upT_two (q := q) hc
  have e : upT (c :: 40 :: q) 0 41 = lead (fun b => b != 41) (c :: 40 :: q) := by unfold upT; simp
  obtain ⟨b, hb, hl⟩ := lead_at (f := fun b => b != 41) (l := c :: 40 :: q) (by rw [← e]; simp at h ⊢; omega)
  have hb' : b = 41 := by simpa using hb
  subst hb'
  rw [← e] at hl
  unfold opK opZ
  generalize upT (c :: 40 :: q) 0 41 = E at *
  obtain ⟨m, rfl⟩ : ∃ m, E = m + 2 := ⟨E - 2, by omega⟩
  simp only [List.take_succ_cons, List.drop_succ_cons, List.cons_append, Nat.add_sub_cancel] at hl ⊢
  simpa using hl
theorem wd_no (l : List UInt8) : (wd l).all (fun b => b != 41) = true := by
  rw [List.all_eq_true]
  intro b hb
  have := List.all_eq_true.1 (wd_wch l) b hb
  by_cases e : b = 41
  · subst e
    exact absurd this (by decide)
  · simp [e]
theorem opX_r (p : List UInt8) : opX (114 :: 40 :: p) = opY 114 (114 :: 40 :: p) := by
  unfold opX
  simp [Lib.hasPrefix, List.isPrefixOf]
theorem opX_w (p : List UInt8) : opX (119 :: 40 :: p) = opY 119 (119 :: 40 :: p) := by
  unfold opX
  simp [Lib.hasPrefix, List.isPrefixOf]
theorem opX_d (p : List UInt8) : opX (100 :: 40 :: p) = opY 100 (100 :: 40 :: p) := by
  unfold opX
  simp [Lib.hasPrefix, List.isPrefixOf]
theorem wd_dash (v : List UInt8) : ¬ 61 :: wd v = [61, 45] := by
  obtain ⟨b, r, e, hb⟩ := wd_cons v
  rw [e]
  intro h
  simp only [List.cons.injEq, true_and] at h
  rw [h.1] at hb
  exact absurd hb (by decide)
theorem opX_form {o : OpM} (h : FormO o) : opX (opL o) = some o := by
  obtain ⟨kind, key, fd, v⟩ := o
  rcases h with ⟨h1, h2⟩ | ⟨h1, h2⟩ | ⟨h1, h2, h3⟩
  · simp only at h1 h2
    subst h1
    cases fd with
    | true =>
      have E : opL ⟨1, key, true, v⟩ = 114 :: 40 :: (wd key.data.toList ++ 41 :: (61 :: wd v.data.toList)) := by simp [opL, letr, keyL, valL]
      obtain ⟨-, e2, e3, e4⟩ := op_parts (c := 114) (by decide) (wd_no key.data.toList) (61 :: wd v.data.toList)
      rw [E, opX_r]
      unfold opY
      rw [if_neg e4, e2, e3, uwd_wd]
      dsimp only
      rw [if_neg (by decide), if_neg (by rw [show Lib.hasPrefix (61 :: wd v.data.toList) [61] = true from has_app [61] _]; decide), if_neg (fun h => wd_dash _ h.2), List.drop_one, List.tail_cons, uwd_wd]
      rfl
    | false =>
      obtain rfl := size_nil (h2.resolve_left (by simp))
      have E : opL ⟨1, key, false, bts []⟩ = 114 :: 40 :: (wd key.data.toList ++ 41 :: [61, 45]) := by simp [opL, letr, keyL]
      obtain ⟨-, e2, e3, e4⟩ := op_parts (c := 114) (by decide) (wd_no key.data.toList) [61, 45]
      rw [E, opX_r]
      unfold opY
      rw [if_neg e4, e2, e3, uwd_wd]
      rfl
  · simp only at h1 h2
    subst h1 h2
    have E : opL ⟨2, key, true, v⟩ = 119 :: 40 :: (wd key.data.toList ++ 41 :: (61 :: wd v.data.toList)) := by simp [opL, letr, keyL, valL]
    obtain ⟨-, e2, e3, e4⟩ := op_parts (c := 119) (by decide) (wd_no key.data.toList) (61 :: wd v.data.toList)
    rw [E, opX_w]
    unfold opY
    rw [if_neg e4, e2, e3, uwd_wd]
    dsimp only
    rw [if_neg (by decide), if_neg (by rw [show Lib.hasPrefix (61 :: wd v.data.toList) [61] = true from has_app [61] _]; decide), if_neg (fun h => wd_dash _ h.2), List.drop_one, List.tail_cons, uwd_wd]
    rfl
  · simp only at h1 h2 h3
    subst h1 h2
    obtain rfl := size_nil h3
    have E : opL ⟨3, key, false, bts []⟩ = 100 :: 40 :: (wd key.data.toList ++ 41 :: []) := by simp [opL, letr, keyL]
    obtain ⟨-, e2, e3, e4⟩ := op_parts (c := 100) (by decide) (wd_no key.data.toList) []
    rw [E, opX_d]
    unfold opY
    rw [if_neg e4, e2, e3, uwd_wd]
    rfl
theorem opY_inv {c : UInt8} (hc : c = 114 ∨ c = 119 ∨ c = 100) {q : List UInt8} {o : OpM} (h : opY c (c :: 40 :: q) = some o) : FormO o ∧ opL o = c :: 40 :: q := by
  have h41 : c ≠ 41 := by rcases hc with rfl | rfl | rfl <;> decide
  unfold opY at h
  by_cases h0 : upT (c :: 40 :: q) 0 41 = (c :: 40 :: q).length
  · rw [if_pos h0] at h; cases h
  · rw [if_neg h0] at h
    have E := op_cut h41 h0
    cases hk : uwd (opK (c :: 40 :: q)) with
    | none => rw [hk] at h; cases h
    | some k =>
      rw [hk] at h
      dsimp only at h
      have ek := wd_uwd hk
      generalize opZ (c :: 40 :: q) = Z at *
      rw [← ek] at E
      rw [E]
      clear hk ek E h0
      by_cases h1 : c = 100
      · subst h1
        rw [if_pos rfl] at h
        by_cases hz : Z = []
        · rw [if_pos hz] at h
          cases h
          subst hz
          exact ⟨.inr (.inr ⟨rfl, rfl, rfl⟩), by simp [opL, letr, keyL, bts]⟩
        · rw [if_neg hz] at h; cases h
      · rw [if_neg h1] at h
        cases hb : Lib.hasPrefix Z [61] with
        | false => rw [if_pos hb] at h; cases h
        | true =>
          rw [if_neg (by rw [hb]; decide)] at h
          obtain ⟨r, rfl⟩ : ∃ r, Z = 61 :: r := ⟨_, has_inv hb⟩
          by_cases h2 : c = 114 ∧ 61 :: r = [61, 45]
          · rw [if_pos h2] at h
            cases h
            obtain ⟨rfl, h3⟩ := h2
            rw [h3]
            exact ⟨.inl ⟨rfl, .inr rfl⟩, by simp [opL, letr, keyL, bts]⟩
          · rw [if_neg h2, List.drop_one, List.tail_cons] at h
            cases hv : uwd r with
            | none => rw [hv] at h; cases h
            | some v =>
              rw [hv] at h
              dsimp only at h
              have ev := wd_uwd hv
              cases h
              rcases hc with rfl | rfl | rfl
              · exact ⟨.inl ⟨rfl, .inl rfl⟩, by rw [← ev]; simp [opL, letr, keyL, valL, bts]⟩
              · exact ⟨.inr (.inl ⟨rfl, rfl⟩), by rw [← ev]; simp [opL, letr, keyL, valL, bts]⟩
              · exact (h1 rfl).elim
theorem form_opX {p : List UInt8} {o : OpM} (h : opX p = some o) : FormO o ∧ opL o = p := by
  unfold opX at h
  by_cases h1 : Lib.hasPrefix p [114, 40] = true
  · rw [if_pos h1] at h
    obtain ⟨q, rfl⟩ := has_two h1
    exact opY_inv (.inl rfl) h
  · rw [if_neg h1] at h
    by_cases h2 : Lib.hasPrefix p [119, 40] = true
    · rw [if_pos h2] at h
      obtain ⟨q, rfl⟩ := has_two h2
      exact opY_inv (.inr (.inl rfl)) h
    · rw [if_neg h2] at h
      by_cases h3 : Lib.hasPrefix p [100, 40] = true
      · rw [if_pos h3] at h
        obtain ⟨q, rfl⟩ := has_two h3
        exact opY_inv (.inr (.inr rfl)) h
      · rw [if_neg h3] at h; cases h
end Go.Proofs.YtlldgibpajbabaaDoor
