/- What is proved: LogfileOne answers true for every list of bytes. -/
import Derived.Test.YtflemfohnpjeaaaLAnch
namespace Go.Proofs.Ytflemfohnpjeaaa
open Go.RowKit

theorem dec7_own_no {base : Nat} {w : World} {v : Value} {l : List Int} (o : OwnB base w v l) (hby : Byts l) (hb : l.length ≤ 211106232532992) {p : Nat} {z : Int} (h : dec7 l = .error (p, z)) : Calls Try.prog 9 #[v] w fun x w' => x = .returned (.tuple #[.slice none 0 0, .int .i64 (p : Int), .int .i64 z]) ∧ Kept w w' := by
  obtain ⟨a, cap, rfl, hd, -, hn, -, -⟩ := OwnB.bytes o
  exact decode7_bad hd hn hb hby h
theorem dec7_own_ok {base : Nat} {w : World} {v : Value} {l : List Int} (o : OwnB base w v l) (hby : Byts l) (hb : l.length ≤ 211106232532992) {ts : List TxM} (h : dec7 l = .ok ts) : Calls Try.prog 9 #[v] w fun x w' => ∃ v l, l.map TxR.t = ts ∧ x = .returned (.tuple #[v, .int .i64 0, .int .i64 0]) ∧ Lst w.heap.size w' v l ∧ Kept w w' := by
  obtain ⟨a, cap, rfl, hd, -, hn, -, -⟩ := OwnB.bytes o
  exact decode7_good hd hn hb hby h
theorem dec7_fits {l : List Int} (hb : Byts l) {p : Nat} {z : Int} (h : dec7 l = .error (p, z)) : p ≤ l.length ∧ z ≠ 0 := by
  refine ⟨(dec7_ext hb h).1, fun e => ?_⟩
  subst e
  unfold dec7 at h
  have hg : ∀ (k : Nat) (s : Sc), all7 l k s ≠ .error (p, 0) := fun k => by
    induction k with
    | zero => intro s c; cases c
    | succ k ih =>
      intro s c
      rw [all7] at c
      rcases hn : next7 l true s with ⟨o, s'⟩
      rw [hn] at c
      cases o with
      | none =>
        simp only at c
        by_cases h0 : s'.er = 0
        · rw [if_pos h0] at c
          cases c
        · rw [if_neg h0] at c
          simp only [Except.error.injEq, Prod.mk.injEq] at c
          exact h0 c.2
      | some t =>
        simp only at c
        cases ha : all7 l k s' with
        | error e =>
          rw [ha] at c
          cases c
          exact ih s' ha
        | ok r =>
          rw [ha] at c
          cases c
  exact hg _ _ h
/-- Encode of a list of one's own whose transactions are right. -/
theorem enc7_own {base : Nat} {w : World} {v : Value} {l : List TxR} (h : Lst base w v l) (hr : ∀ t ∈ l.map TxR.t, Right t) (hl : l.length ≤ 4096) : Calls Try.prog 7 #[v] w fun x w' => ∃ u, x = .returned (.tuple #[u, .int .i64 0, .int .i64 0]) ∧ OwnB w.heap.size w' u (log7 (l.map TxR.t)) ∧ Kept w w' := by
  obtain ⟨a, cap, rfl, hd, -⟩ := OwnT.txs h.row
  refine Calls.mono (encode7_any (c := cap) hd h.deep (by omega)) ?_
  rintro x w' ⟨k, m⟩
  rw [if_pos (check7_ok.2 ⟨hr, by rw [List.length_map]; exact hl⟩)] at m
  obtain ⟨u, e, o⟩ := m
  exact ⟨u, e, o, k⟩
end Go.Proofs.Ytflemfohnpjeaaa
