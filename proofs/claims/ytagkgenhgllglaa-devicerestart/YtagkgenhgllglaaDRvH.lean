/- What is proved: the document's device: its three calls answer as the plain device does, for every block; Check is the plain check. -/
import Derived.Test.YtagkgenhgllglaaDRvG
namespace Go.Proofs.Ytagkgenhgllglaa
open Go.RowKit

theorem rreadIn_any {w : World} {m : M} {p : RP} {Q : List Rb} (h : Rv w m p Q) (b : Int) (hq : Q.length + 1 ≤ 8796093022208) (hk : m.k + 1 < 4611686018427387904) :
    Calls Try.prog 33 #[.pointer (some ⟨p.db, 0, none⟩), .int .i64 b] w (RRPost w p Q (m.readIn b)) := by
  unfold M.readIn M.readR
  by_cases hd : m.down = true
  · rw [if_pos hd]
    refine (rri_no h b (.inl hd)).mono ?_
    rintro e w1 ⟨rfl, k1⟩
    rw [if_pos hd]
    exact RRPost.none (v := p.sv) (h.on k1) (k1.to _) (RNew.same _ _) (Nat.le_succ _)
  · rw [if_neg hd]
    have hd' : m.down = false := by simpa using hd
    by_cases ho : b < 0 ∨ (nblk m.inp.length m.B : Int) ≤ b
    · rw [if_pos ho]
      refine (rri_no h b (.inr ho)).mono ?_
      rintro e w1 ⟨rfl, k1⟩
      rw [if_neg hd]
      exact RRPost.none (v := p.sv) (h.on k1) (k1.to _) (RNew.same _ _) (Nat.le_succ _)
    · rw [if_neg ho]
      obtain ⟨n, rfl⟩ := Int.eq_ofNat_of_zero_le (show 0 ≤ b by omega)
      have hlt : n * m.B < m.inp.length := (lt_nblk (by have := h.good.b1; omega)).1 (by omega)
      exact rri_yes h n hd' hlt hq hk
theorem rreadSc_any {w : World} {m : M} {p : RP} {Q : List Rb} (h : Rv w m p Q) (b : Int) (hq : Q.length + 1 ≤ 8796093022208) (hk : m.k + 1 < 4611686018427387904) :
    Calls Try.prog 34 #[.pointer (some ⟨p.db, 0, none⟩), .int .i64 b] w (RRPost w p Q (m.readSc b)) := by
  unfold M.readSc M.readR
  by_cases hd : m.down = true
  · rw [if_pos hd]
    refine (rrs_no h b (.inl hd)).mono ?_
    rintro e w1 ⟨rfl, h1⟩
    subst w1
    rw [if_pos hd]
    exact RRPost.none (v := p.sv) h (Same.refl _ _) (RNew.same _ _) (Nat.le_succ _)
  · rw [if_neg hd]
    have hd' : m.down = false := by simpa using hd
    by_cases ho : b < 0 ∨ (m.S : Int) ≤ b
    · rw [if_pos ho]
      refine (rrs_no h b (.inr ho)).mono ?_
      rintro e w1 ⟨rfl, h1⟩
      subst w1
      rw [if_neg hd]
      exact RRPost.none (v := p.sv) h (Same.refl _ _) (RNew.same _ _) (Nat.le_succ _)
    · rw [if_neg ho]
      obtain ⟨n, rfl⟩ := Int.eq_ofNat_of_zero_le (show 0 ≤ b by omega)
      exact rrs_yes h n hd' (by omega) hq hk
theorem rwrite_any {w : World} {m : M} {p : RP} {Q : List Rb} (h : Rv w m p Q) (b : Int) (a : Option Addr) (cap : Nat) (d : List Int) (ha : BytesAt w a d) (hap : ∀ k, InB a d.length k → ¬ ROwn p k) (hk : m.k + 1 < 4611686018427387904) :
    Calls Try.prog 35 #[.pointer (some ⟨p.db, 0, none⟩), .int .i64 b, .slice a d.length cap] w (WPost w p Q (m.write b d)) := by
  by_cases hno : m.down = true ∨ b < 0 ∨ (m.S : Int) ≤ b ∨ d.length ≠ m.B
  · refine (rw_no h b a d.length cap hno).mono ?_
    rintro e w1 ⟨rfl, h1⟩
    subst w1
    unfold M.write
    by_cases hd : m.down = true
    · rw [if_pos hd, if_pos hd]
      exact ⟨rfl, h, Same.refl _ _⟩
    · rw [if_neg hd, if_neg hd]
      by_cases ho : b < 0 ∨ (m.S : Int) ≤ b
      · rw [if_pos ho, if_pos ho]
        exact ⟨rfl, h, Same.refl _ _⟩
      · have hl : d.length ≠ m.B := by
          rcases hno with h' | h' | h' | h'
          · exact absurd h' hd
          · exact absurd (.inl h') ho
          · exact absurd (.inr h') ho
          · exact h'
        rw [if_neg ho, if_neg ho, if_pos hl]
        exact ⟨rfl, h, Same.refl _ _⟩
  · have hd' : m.down = false := by
      cases e : m.down with
      | true => exact absurd (.inl e) hno
      | false => rfl
    obtain ⟨n, rfl⟩ := Int.eq_ofNat_of_zero_le (show 0 ≤ b by omega)
    exact rw_yes h n a cap d hd' (by omega) (by omega) ha hap hk

end Go.Proofs.Ytagkgenhgllglaa
