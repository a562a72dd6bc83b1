/- What is proved: plain facts of a reader over the input of a device without faults: it answers the input from where it is, and reads each block once; no condition. -/
import Derived.Test.YtpjkmficpedmcaaSModel
namespace Go.Proofs.Ytpjkmficpedmcaa
open Go.RowKit

/-- A reader over the input, at place c, on a device that nothing strikes. -/
structure RdI (B : Nat) (inp : List Int) (c : Nat) (s : RdS) : Prop where
  ei : s.m.inp = inp
  eB : s.m.B = B
  eF : s.m.F = []
  dn : s.m.down = false
  held : s.held = (inp.take (s.nx * B)).drop c
  le : c ≤ inp.length
  nx : c ≤ s.nx * B
  nb : s.nx ≤ nblk inp.length B
theorem readIn_free {m : M} {i : Nat} (hd : m.down = false) (hF : m.F = []) (hi : i < nblk m.inp.length m.B) : m.readIn i = (0, cut m.B m.inp i, m.cI1.rd 1 i) := by
  unfold M.readIn M.readR
  rw [if_neg (by rw [hd]; decide), if_neg (by omega), if_neg (by rw [hF]; simp [Hits])]
  rfl
/-- A byte is held. -/
theorem RdI.hold {B : Nat} {inp : List Int} {c : Nat} {s : RdS} (h : RdI B inp c s) (hB : 0 < B) (hc : c < inp.length) : ∃ s', s.hold .inp = (0, s') ∧ RdI B inp c s' ∧ c < s'.nx * B ∧ s'.m.cI + s.nx = s.m.cI + s'.nx ∧ s'.m.cS = s.m.cS ∧ s'.m.k + 2 * s.nx = s.m.k + 2 * s'.nx := by
  by_cases h0 : s.held = []
  · have hlt : s.nx * B = c := by
      have h1 := h.held
      rw [h0] at h1
      have h2 := congrArg List.length h1
      simp only [List.length_nil, List.length_drop, List.length_take] at h2
      have := h.nx
      omega
    have hn : s.nx < nblk inp.length B := (lt_nblk hB).2 (by omega)
    have hb : Src.inp.blk s.m s.nx = (0, cut B inp s.nx, s.m.cI1.rd 1 s.nx) := by
      have := readIn_free (m := s.m) (i := s.nx) h.dn h.eF (by rw [h.ei, h.eB]; exact hn)
      rw [h.ei, h.eB] at this
      exact this
    refine ⟨⟨s.m.cI1.rd 1 s.nx, s.nx + 1, cut B inp s.nx⟩, ?_, ⟨h.ei, h.eB, h.eF, h.dn, ?_, h.le, ?_, hn⟩, ?_, ?_, rfl, ?_⟩
    · unfold RdS.hold
      rw [if_neg (by rw [h0]; simp), hb, if_neg (by simp)]
    · show cut B inp s.nx = (inp.take ((s.nx + 1) * B)).drop c
      unfold cut
      rw [← hlt, List.drop_take, Nat.add_mul, Nat.one_mul, Nat.add_sub_cancel_left]
    · show c ≤ (s.nx + 1) * B
      rw [Nat.add_mul]; omega
    · show c < (s.nx + 1) * B
      rw [Nat.add_mul]; omega
    · show s.m.cI + 1 + s.nx = s.m.cI + (s.nx + 1)
      omega
    · show s.m.k + 1 + 1 + 2 * s.nx = s.m.k + 2 * (s.nx + 1)
      omega
  · refine ⟨s, hold_some h0, h, ?_, rfl, rfl, rfl⟩
    have h1 := List.length_pos_iff.2 h0
    rw [h.held] at h1
    simp only [List.length_drop, List.length_take] at h1
    omega
/-- So many bytes more are those of the input. -/
theorem rd_inp {B : Nat} {inp : List Int} (hB : 0 < B) : ∀ (k c : Nat) (s : RdS), RdI B inp c s → c + k ≤ inp.length → ∃ s', rd .inp k s = (0, (inp.drop c).take k, s') ∧ RdI B inp (c + k) s' ∧ s'.m.cI + s.nx = s.m.cI + s'.nx ∧ s'.m.cS = s.m.cS ∧ s'.m.k + 2 * s.nx = s.m.k + 2 * s'.nx
  | 0, c, s, h, _ => ⟨s, by simp [rd], h, rfl, rfl, rfl⟩
  | k + 1, c, s, h, hk => by
    obtain ⟨s1, e1, h1, hx, hc1, hc2, hc3⟩ := h.hold hB (by omega)
    have hcl : c < inp.length := by omega
    have hh : s1.held = inp[c] :: (inp.take (s1.nx * B)).drop (c + 1) := by
      rw [h1.held, List.drop_eq_getElem_cons (by rw [List.length_take]; omega)]
      congr 1
      exact List.getElem_take
    have h2 : RdI B inp (c + 1) ⟨s1.m, s1.nx, (inp.take (s1.nx * B)).drop (c + 1)⟩ := ⟨h1.ei, h1.eB, h1.eF, h1.dn, rfl, by omega, by show c + 1 ≤ s1.nx * B; omega, h1.nb⟩
    obtain ⟨s2, e2, h3, g1, g2, g3⟩ := rd_inp hB k (c + 1) _ h2 (by omega)
    refine ⟨s2, ?_, by rw [show c + (k + 1) = c + 1 + k by omega]; exact h3, ?_, g2.trans hc2, ?_⟩
    · simp only [rd, e1]
      rw [if_neg (by simp), hh]
      simp only [e2]
      rw [List.drop_eq_getElem_cons hcl, List.take_succ_cons]
    · simp only at g1
      omega
    · simp only at g3
      omega
/-- All is read: each block once. -/
theorem RdI.all {B : Nat} {inp : List Int} {s : RdS} (h : RdI B inp inp.length s) (hB : 0 < B) : s.nx = nblk inp.length B := by
  have h1 := h.nb
  rcases Nat.lt_or_ge s.nx (nblk inp.length B) with h2 | h2
  · have h3 := (lt_nblk hB).1 h2
    have := h.nx
    omega
  · omega
theorem rdI_new (B : Nat) (inp : List Int) : RdI B inp 0 ⟨M.made B 0 inp [] [], 0, []⟩ := ⟨rfl, rfl, rfl, rfl, by simp, Nat.zero_le _, Nat.zero_le _, Nat.zero_le _⟩
end Go.Proofs.Ytpjkmficpedmcaa
