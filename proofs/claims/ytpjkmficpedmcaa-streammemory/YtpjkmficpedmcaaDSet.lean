/- What is proved: small laws on a Setup in memory and on bytes laid over a list; no condition. -/
import Derived.Test.YtpjkmficpedmcaaDAnchor
import Derived.Deep.DeepCutAuto
namespace Go.Proofs.Ytpjkmficpedmcaa
open Go.RowKit

/-- A Setup's value. -/
def setupV (B S : Int) (ia ga fa : Option Addr) (ni ic ng gc nf fc : Nat) : Value := .agg #[.int .i64 B, .int .i64 S, .slice ia ni ic, .slice ga ng gc, .slice fa nf fc]
theorem splice_get {α : Type} (L cs : List α) (off i : Nat) (hf : off + cs.length ≤ L.length) : (splice L off cs)[i]? = if off ≤ i ∧ i < off + cs.length then cs[i - off]? else L[i]? := by
  unfold splice
  by_cases h1 : i < off
  · rw [List.getElem?_append_left (by simp; omega), List.getElem?_take_of_lt h1, if_neg (by omega)]
  · rw [List.getElem?_append_right (by simp; omega), List.length_take, Nat.min_eq_left (by omega)]
    by_cases h2 : i < off + cs.length
    · rw [List.getElem?_append_left (by omega), if_pos (by omega)]
    · rw [List.getElem?_append_right (by omega), List.getElem?_drop, if_neg (by omega)]
      congr 1
      omega
theorem cut_splice (L d : List Int) (B n : Nat) (hl : d.length = B) (hf : n * B + B ≤ L.length) : cut B (splice L (n * B) d) n = d := by
  apply List.ext_getElem?
  intro i
  by_cases hi : i < B
  · rw [cut, List.getElem?_take_of_lt hi, List.getElem?_drop, splice_get _ _ _ _ (by omega), if_pos (by omega)]
    congr 1
    omega
  · rw [cut, List.getElem?_take_eq_none (by omega)]
    exact (List.getElem?_eq_none (by omega)).symm
theorem made_good {B S : Nat} {l ls : List Int} (h : chk B S l.length ls.length [] = 0) : 16 ≤ B ∧ B ≤ 1024 ∧ S ≤ 4096 ∧ l.length ≤ 4194304 ∧ ls.length ≤ B * S := by
  unfold chk at h
  by_cases h1 : okG B S = false
  · rw [if_pos h1] at h; cases h
  · rw [if_neg h1] at h
    obtain ⟨b, s, e1, e2, g1, g2, g3⟩ := okG_nat (show okG B S = true by simpa using h1)
    by_cases h2 : 4194304 < l.length
    · rw [if_pos h2] at h; cases h
    · rw [if_neg h2] at h
      by_cases h3 : (B : Int) * S < ls.length
      · rw [if_pos h3] at h; cases h
      · have h3' : ¬ ((B * S : Nat) : Int) < ls.length := by rw [Int.natCast_mul]; exact h3
        exact ⟨by omega, by omega, by omega, by omega, by omega⟩

theorem write_unfit {m : M} {b : Int} {d : List Int} (hd : m.down = false) (h : b < 0 ∨ (m.S : Int) ≤ b ∨ d.length ≠ m.B) : ∃ c, c ≠ 0 ∧ m.write b d = (c, m) := by
  unfold M.write
  rw [if_neg (by rw [hd]; decide)]
  by_cases ho : b < 0 ∨ (m.S : Int) ≤ b
  · exact ⟨35, by decide, if_pos ho⟩
  · refine ⟨36, by decide, ?_⟩
    rw [if_neg ho]
    exact if_pos (by omega)
theorem write_fit {m : M} {n : Nat} {d : List Int} (hd : m.down = false) (hn : n < m.S) (hl : d.length = m.B) (hF : m.F = []) : m.write n d = (0, m.cW1.torn (n * m.B) d false) := by
  rw [write_in hd hn hl, hF]
  rfl
theorem readSc_fit {m : M} {n : Nat} (hd : m.down = false) (hn : n < m.S) (hF : m.F = []) : m.readSc n = (0, cut m.B m.scr n, m.cS1.rd 2 n) := by
  unfold M.readSc M.readR
  rw [if_neg (by rw [hd]; decide), if_neg (by omega), hF, if_neg (by simp [Hits])]
  rfl
theorem made_len (B S : Nat) (l ls : List Int) (F : List Fl) (h : ls.length ≤ B * S) : (M.made B S l ls F).scr.length = B * S := by
  show (splice (List.replicate (B * S) 0) 0 ls).length = B * S
  rw [length_splice _ _ _ (by simpa using h)]
  simp
end Go.Proofs.Ytpjkmficpedmcaa
