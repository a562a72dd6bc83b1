/- What is proved: ReadInput and ReadScratch as in the device's texts, the answer's capacity told; the device lies in memory. -/
import Derived.Test.YtpjkmficpedmcaaSModel
namespace Go.Proofs.Ytpjkmficpedmcaa
open Go.RowKit

/-- The post of a read. -/
def RPostC (p : Pl) (w : World) (x : Int × List Int × M) (e : Ending) (w' : World) : Prop :=
  ∃ a, e = .returned (.tuple #[.slice a x.2.1.length x.2.1.length, .int .i64 x.1]) ∧ BytesAt w' a x.2.1 ∧ (∀ k, InB a x.2.1.length k → w.heap.size ≤ k) ∧ Dv w' x.2.2 p ∧ Same (Own p) w w' ∧ (a = none → x.2.1.length = 0) ∧ (∀ ad, a = some ad → ad.spot = none)
theorem RPostC.none {p : Pl} {w w' : World} {m : M} {c : Int} (h : Dv w' m p) (hs : Same (Own p) w w') : RPostC p w (c, [], m) (.returned (.tuple #[.slice none 0 0, .int .i64 c])) w' :=
  ⟨.none, rfl, BytesAt.nil _ _, fun k hk => absurd hk.1 (by simp), h, hs, fun _ => rfl, (fun ad e => by cases e)⟩

theorem readInput_c {w : World} {m : M} {p : Pl} (h : Dv w m p) (b : Int) (hk : m.k + 1 < 4611686018427387904) :
    Calls Try.prog 77 #[.pointer (some ⟨p.db, 0, none⟩), .int .i64 b] w (RPostC p w (m.readIn b)) := by
  have b1 := h.good.b1
  have hn := h.good.inp
  unfold M.readIn M.readR
  by_cases hd : m.down = true
  · rw [if_pos hd]
    refine (ri_no h b 34 (by decide) fun w1 k1 => refuse_down (h.kept0 k1) b _ hd).mono ?_
    rintro e w1 ⟨rfl, k1⟩
    exact RPostC.none (h.kept0 k1) (k1.to _)
  · rw [if_neg hd]
    have hd' : m.down = false := by simpa using hd
    by_cases ho : b < 0 ∨ (nblk m.inp.length m.B : Int) ≤ b
    · rw [if_pos ho]
      refine (ri_no h b 35 (by decide) fun w1 k1 => refuse_out (h.kept0 k1) b _ hd' ho).mono ?_
      rintro e w1 ⟨rfl, k1⟩
      exact RPostC.none (h.kept0 k1) (k1.to _)
    · rw [if_neg ho]
      obtain ⟨n, rfl⟩ := Int.eq_ofNat_of_zero_le (show 0 ≤ b by omega)
      have hlt : n < nblk m.inp.length m.B := by omega
      have hbl : n * m.B < m.inp.length := (lt_nblk (by omega)).1 hlt
      have hln : m.inp.length ≤ 4194304 := hn
      have hn64 : n ≤ 4194304 := Nat.le_trans (Nat.le_trans (Nat.le_mul_of_pos_right n (by omega)) (Nat.le_of_lt hbl)) hln
      have hi : I64 (n : Int) := I64.mk (by omega) (by omega)
      rw [show ((n : Nat) : Int).toNat = n from rfl]
      refine Calls.mono (ri_yes h n (by omega) (fun a x cap c w' => RPostC p w (if Hits m.F 1 n (m.R 1 n + 1) = true then (37, [], (m.cI1.rd 1 n).hit) else (0, cut m.B m.inp n, m.cI1.rd 1 n)) (.returned (.tuple #[.slice a x cap, .int .i64 c])) w') (fun w1 k1 => refuse_no (h.kept0 k1) (n : Int) _ hd' (by omega) (by omega)) ?_) ?_
      · intro w1 k1
        have hd1 := (h.kept0 k1).cI1
        have s1 : Same (Own p) w (w1.setCell ⟨p.db, 6, none⟩ (.int .i64 ((m.cI : Int) + 1))) := Same.setCell (k1.to _) _ (.inr (.inl rfl)) _
        by_cases hh : Hits m.F 1 n (m.R 1 n + 1) = true
        · rw [if_pos hh]
          refine (read_hit hd1 1 n (.slice p.ia m.inp.length p.icap) (by rfl) hi (show m.k + 1 < _ by omega) hh).mono ?_
          rintro e w2 ⟨rfl, h2, s2⟩
          exact ⟨_, _, _, _, rfl, RPostC.none h2 (s1.trans' s2)⟩
        · rw [if_neg hh]
          refine Calls.mono (read_ok hd1 1 n p.ia p.icap m.inp hd1.inp hn hd1.icap hbl (fun k hk => (hd1.api k hk).2.2) (by rfl) hi (show m.k + 1 < _ by omega) (Bool.eq_false_iff.2 hh)) ?_
          rintro e w2 ⟨g, rfl, hg, h2, h3, s2⟩
          refine ⟨_, _, _, _, rfl, _, rfl, bytes_row h2, fun k hk => ?_, h3, s1.trans' s2, (fun e => by cases e), (fun ad e => by cases e; rfl)⟩
          obtain ⟨_, off, e⟩ := hk
          cases e
          exact Nat.le_trans s1.size hg
      · rintro e w' ⟨a, x, cap, c, rfl, hp⟩
        exact hp

theorem readScratch_c {w : World} {m : M} {p : Pl} (h : Dv w m p) (b : Int) (hk : m.k + 1 < 4611686018427387904) :
    Calls Try.prog 72 #[.pointer (some ⟨p.db, 0, none⟩), .int .i64 b] w (RPostC p w (m.readSc b)) := by
  have b1 := h.good.b1
  have hn := h.good.inp
  unfold M.readSc M.readR
  by_cases hd : m.down = true
  · rw [if_pos hd]
    refine (rs_no h b 34 (by decide) fun w1 k1 => refuse_down (h.kept0 k1) b _ hd).mono ?_
    rintro e w1 ⟨rfl, k1⟩
    exact RPostC.none (h.kept0 k1) (k1.to _)
  · rw [if_neg hd]
    have hd' : m.down = false := by simpa using hd
    by_cases ho : b < 0 ∨ (m.S : Int) ≤ b
    · rw [if_pos ho]
      refine (rs_no h b 35 (by decide) fun w1 k1 => refuse_out (h.kept0 k1) b _ hd' ho).mono ?_
      rintro e w1 ⟨rfl, k1⟩
      exact RPostC.none (h.kept0 k1) (k1.to _)
    · rw [if_neg ho]
      obtain ⟨n, rfl⟩ := Int.eq_ofNat_of_zero_le (show 0 ≤ b by omega)
      have hlt : n < m.S := by omega
      have hbl : n * m.B < m.scr.length := by rw [h.good.scr, Nat.mul_comm]; exact Nat.mul_lt_mul_of_pos_left hlt (by omega)
      have hln : m.scr.length ≤ 4194304 := by rw [h.good.scr]; exact Nat.le_trans (Nat.mul_le_mul h.good.b2 h.good.s2) (by decide)
      have hn64 : n ≤ 4194304 := Nat.le_trans (Nat.le_trans (Nat.le_mul_of_pos_right n (by omega)) (Nat.le_of_lt hbl)) hln
      have hi : I64 (n : Int) := I64.mk (by omega) (by omega)
      rw [show ((n : Nat) : Int).toNat = n from rfl]
      refine Calls.mono (rs_yes h n (by omega) (fun a x cap c w' => RPostC p w (if Hits m.F 2 n (m.R 2 n + 1) = true then (37, [], (m.cS1.rd 2 n).hit) else (0, cut m.B m.scr n, m.cS1.rd 2 n)) (.returned (.tuple #[.slice a x cap, .int .i64 c])) w') (fun w1 k1 => refuse_no (h.kept0 k1) (n : Int) _ hd' (by omega) (by omega)) ?_) ?_
      · intro w1 k1
        have hd1 := (h.kept0 k1).cS1
        have s1 : Same (Own p) w (w1.setCell ⟨p.db, 7, none⟩ (.int .i64 ((m.cS : Int) + 1))) := Same.setCell (k1.to _) _ (.inr (.inl rfl)) _
        by_cases hh : Hits m.F 2 n (m.R 2 n + 1) = true
        · rw [if_pos hh]
          refine (read_hit hd1 2 n (.slice (some ⟨p.sb, 0, none⟩) (m.B * m.S) (m.B * m.S)) (by rfl) hi (show m.k + 1 < _ by omega) hh).mono ?_
          rintro e w2 ⟨rfl, h2, s2⟩
          exact ⟨_, _, _, _, rfl, RPostC.none h2 (s1.trans' s2)⟩
        · rw [if_neg hh]
          refine Calls.mono (by
            have hx := read_ok hd1 2 n (some ⟨p.sb, 0, none⟩) (m.B * m.S) m.scr (bytes_row hd1.scr) hln (Nat.le_of_eq h.good.scr) hbl (fun k hk e => by obtain ⟨_, off, e'⟩ := hk; cases e'; exact hd1.sb_mb e) (by rfl) hi (show m.k + 1 < _ by omega) (Bool.eq_false_iff.2 hh)
            rw [h.good.scr] at hx
            exact hx) ?_
          rintro e w2 ⟨g, rfl, hg, h2, h3, s2⟩
          refine ⟨_, _, _, _, rfl, _, rfl, bytes_row h2, fun k hk => ?_, h3, s1.trans' s2, (fun e => by cases e), (fun ad e => by cases e; rfl)⟩
          obtain ⟨_, off, e⟩ := hk
          cases e
          exact Nat.le_trans s1.size hg
      · rintro e w' ⟨a, x, cap, c, rfl, hp⟩
        exact hp
end Go.Proofs.Ytpjkmficpedmcaa
