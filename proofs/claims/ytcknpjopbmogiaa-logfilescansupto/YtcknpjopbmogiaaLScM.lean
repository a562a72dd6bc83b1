/- What is proved: the document's Finished; what both scanners tell is the same where both stand at one state; no condition. -/
import Derived.Test.YtcknpjopbmogiaaLRs
import Derived.Test.YtcknpjopbmogiaaLTell
import Derived.BigQuiet
namespace Go.Proofs.Ytcknpjopbmogiaa
open Go.RowKit

section
variable {base : Nat} {w : World} {sb rb : Nat} {v : Value} {oa : Option Addr} {c : Nat} {d : List Int} {en : Bool} {s : Sc}
set_option maxRecDepth 100000 in
set_option maxHeartbeats 1600000 in
theorem rfin_any (h : Rs w rb oa c d en s) : Calls Try.prog 40 #[.pointer (some ⟨rb, 0, none⟩)] w fun x w' => x = .returned (.bool (decide (s.ft = true ∧ en = true ∧ s.pl = d.length ∧ s.er = 0))) ∧ ∃ k, w' = w.drewN k := by
  obtain ⟨c0, c1, c2, -, c4, c5⟩ := h.cells
  have hlt := h.lt
  obtain ⟨n, en'⟩ : ∃ n, n = d.length := ⟨_, rfl⟩
  obtain ⟨pl, ct, ft, er⟩ := s
  simp only at c2 c4 c5 ⊢
  rw [← en'] at c0 ⊢
  clear h en'
  cases ft with
  | false =>
    rw [show decide (false = true ∧ en = true ∧ pl = n ∧ er = 0) = false from decide_eq_false (fun c => by cases c.1)]
    go_enter Try.func40, Try.ntmps40
    go_wp2_with fail
    go_quiet (fail)
    go_wp2_with fail
    go_ret
    exact ⟨rfl, nq, rfl⟩
  | true =>
    cases en with
    | false =>
      rw [show decide (true = true ∧ false = true ∧ pl = n ∧ er = 0) = false from decide_eq_false (fun c => by cases c.2.1)]
      go_enter Try.func40, Try.ntmps40
      go_wp2_with fail
      go_quiet (fail)
      go_wp2_with fail
      go_ret
      exact ⟨rfl, nq, rfl⟩
    | true =>
      by_cases hn : pl = n
      · subst hn
        have hpp : ((pl : Int) == (pl : Int)) = true := by simp
        by_cases he : er = 0
        · subst he
          rw [show decide (true = true ∧ true = true ∧ pl = pl ∧ (0 : Int) = 0) = true from decide_eq_true ⟨rfl, rfl, rfl, rfl⟩]
          go_enter Try.func40, Try.ntmps40
          go_wp2_with fail
          go_quiet (fail)
          go_wp2_with fail
          go_ret
          exact ⟨rfl, nq, rfl⟩
        · have he' : (er == 0) = false := by simpa using he
          rw [show decide (true = true ∧ true = true ∧ pl = pl ∧ er = 0) = false from decide_eq_false (fun c => he c.2.2.2)]
          clear he
          go_enter Try.func40, Try.ntmps40
          go_wp2_with fail
          go_quiet (fail)
          go_wp2_with fail
          go_ret
          exact ⟨rfl, nq, rfl⟩
      · have hn' : ((pl : Int) == (n : Int)) = false := by simpa using fun c => hn (by omega)
        rw [show decide (true = true ∧ true = true ∧ pl = n ∧ er = 0) = false from decide_eq_false (fun c => hn c.2.2.1)]
        clear hn
        go_enter Try.func40, Try.ntmps40
        go_wp2_with fail
        go_quiet (fail)
        go_wp2_with fail
        go_ret
        exact ⟨rfl, nq, rfl⟩
/-- Finished is the same. -/
theorem fin_same (hp : s.pl ≤ d.length) : decide (partOf s = 2 ∧ en = true ∧ (restOf d s).length = 0) = decide (s.ft = true ∧ en = true ∧ s.pl = d.length ∧ s.er = 0) := by
  by_cases he : s.er = 0
  · rw [rest_0 he, List.length_drop]
    cases hf : s.ft with
    | true =>
      rw [part_ft he hf]
      congr 1
      simp only [he, true_and, and_true]
      apply propext
      constructor
      · rintro ⟨a, b⟩
        exact ⟨a, by omega⟩
      · rintro ⟨a, b⟩
        exact ⟨a, by omega⟩
    | false =>
      rw [decide_eq_false, decide_eq_false]
      · rintro ⟨a, -⟩
        cases a
      · rintro ⟨a, -⟩
        by_cases h0 : s.pl = 0
        · rw [part_0 he hf h0] at a
          cases a
        · rw [part_1 he hf h0] at a
          cases a
  · rw [part_er he, decide_eq_false, decide_eq_false]
    · rintro ⟨-, -, -, a⟩
      exact he a
    · rintro ⟨a, -⟩
      cases a
set_option maxRecDepth 100000 in
set_option maxHeartbeats 3200000 in
theorem tells7_any (h : At base w sb v d en s) (hr : Rs w rb oa c d en s) : Calls Try.prog 13 #[.pointer (some ⟨sb, 0, none⟩), .pointer (some ⟨rb, 0, none⟩)] w fun x w' => x = .returned (.bool true) ∧ Kept w w' := by
  obtain ⟨-, -, c2, c3, -, -⟩ := hr.cells
  have hlt := hr.lt
  have HO : Hid (∀ n, _) := fun n => soffset_any (h.sn.on ((Same.refl _ w).drewN n))
  have HC : Hid (∀ n, _) := fun n => scount_any (h.sn.on ((Same.refl _ w).drewN n))
  have HF : Hid (∀ n, _) := fun n => sfin_any (h.sn.on ((Same.refl _ w).drewN n))
  have HG : Hid (∀ n, _) := fun n => rfin_any (hr.on ((Same.refl _ w).drewN n))
  rw [fin_same h.ple] at HF
  obtain ⟨b, eb⟩ : ∃ b, b = decide (s.ft = true ∧ en = true ∧ s.pl = d.length ∧ s.er = 0) := ⟨_, rfl⟩
  rw [← eb] at HF HG
  obtain ⟨pl, ct, ft, er⟩ := s
  simp only at c2 c3 HO HC
  clear h hr eb
  have hpp : ((pl : Int) == (pl : Int)) = true := by simp
  have hcc : ((ct : Int) == (ct : Int)) = true := by simp
  have hbb : (b == b) = true := by cases b <;> rfl
  go_enter Try.func13, Try.ntmps13
  go_wp2_with fail
  go_quiet (first | (go_at_call 37; exact Calls.quiet_of_same (HO.out _)) | (go_at_call 38; exact Calls.quiet_of_same (HC.out _)) | (go_at_call 39; exact Calls.quiet_of_same (HF.out _)) | (go_at_call 40; exact Calls.quiet_of (HG.out _)))
  go_wp2_with fail
  go_ret
  exact ⟨rfl, (Same.refl _ w).drewN nq⟩
end
end Go.Proofs.Ytcknpjopbmogiaa
