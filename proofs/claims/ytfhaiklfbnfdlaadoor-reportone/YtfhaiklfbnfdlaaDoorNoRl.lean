/- What is proved: the document's text, add, number; conditions: lengths. -/
import Derived.Test.YtfhaiklfbnfdlaaDoorNoDb
namespace Go.Proofs.YtfhaiklfbnfdlaaDoor
open Go.RowKit

theorem app_rowO {w : World} {base : Nat} {v : Value} {xs : List Int} {oa : Option Addr} {c : Nat} {l : List Int} (hown : OwnB base w v xs) (hl : BytesAt w oa l) (hnil : oa = none → l.length = 0 ∧ c = 0) (hb : xs.length + l.length ≤ 140737488355328) (hbase : base ≤ w.heap.size) (ty : TypeId) :
    ∃ v' w', (Builtin.append_ #[32, 32] ty #[v, .slice oa l.length c]).run Tryd.prog w = .ok v' w' ∧ ApO base w (xs ++ l) v' w' := by
  obtain ⟨i0, hi0, hz0, hz1, hz2⟩ := info_parts Tryd.infoByte
  cases oa with
  | none =>
    obtain ⟨h0, rfl⟩ := hnil rfl
    obtain rfl : l = [] := List.eq_nil_of_length_eq_zero h0
    refine ⟨v, w, run_append_owned_none (P := Tryd.prog) (w := w) base 32 ty 5 i0 1 Tryd.underlying32 hi0 v xs.length _ hown, ?_, Oth.refl _ _⟩
    simpa using hown
  | some ad =>
    obtain ⟨v', w', hr, r1, r2, _, r3⟩ := run_append_own_at (P := Tryd.prog) (w := w) base 32 ty 5 i0 _ 1 1 Tryd.underlying32 hi0 hz0 hz1 hz2 rfl (by decide) v xs.length _ hown ad l.length c (byt l) (by rw [length_byt, Nat.mul_one])
      (fun j u hu => by
        rw [byt_get] at hu
        obtain ⟨x, hx, rfl⟩ := Option.map_eq_some_iff.1 hu
        obtain ⟨b', off', e, _, hc⟩ := hl _ _ hx
        cases e
        rw [Addr.add_lit]
        exact hc) (byt_one _) (by unfold maxLen; omega) (by omega) hbase
    rw [← byt_append] at r1
    exact ⟨v', w', hr, by rw [OwnB, List.length_append]; exact r1, Oth.own hown (Same.of_grown r2 (fun k e => e))⟩
end Go.Proofs.YtfhaiklfbnfdlaaDoor
