/- What is proved: plain facts: a few steps one behind the other, told by clock, versions and active transactions; of two transactions that write one key the first to commit commits; no condition. -/
import Derived.Test.YtmghmacgljihcaaKFst
import Derived.Test.YtmghmacgljihcaaKNew
namespace Go.Proofs.Ytmghmacgljihcaa

theorem do_ok0 {M : Mm} {s : Stp} (h : codeD M s = 0) (hg : s.gap = 0) : doM M s = goM (M.tick (M.clock + 1)) M.clock s := by rw [do_ok h, hg, Int.add_zero]
/-- The machine told by its clock, its versions, how many are finished, and what is active. -/
structure Sx (N : Nat) (M : Mm) (c : Int) (A : List En) (n : Nat) (S : Nat → Option Ac) : Prop where
  ok : Ok N M
  clock : M.clock = c
  A : M.A = A
  log : M.log.length = n
  act : ∀ j, (M.at j).act = S j
def up (S : Nat → Option Ac) (i : Nat) (o : Option Ac) : Nat → Option Ac := fun j => if i = j then o else S j
theorem up_same (S : Nat → Option Ac) (i : Nat) (o : Option Ac) : up S i o i = o := by simp [up]
theorem up_other {S : Nat → Option Ac} {i j : Nat} {o : Option Ac} (h : i ≠ j) : up S i o j = S j := by simp [up, h]
theorem acts_le (S : List Sn) : acts S ≤ S.length := List.countP_le_length
theorem Sx.begin {N : Nat} {M : Mm} {c : Int} {A : List En} {n : Nat} {S : Nat → Option Ac} (h : Sx N M c A n S) {i : Nat} (hi : i < N) (hs : S i = none) (hc : c < 1099511627776) (hn : n ≤ 4000) : ∃ M' a, doM M ⟨1, i, 0, e0, e0⟩ = (M', an0) ∧ codeD M ⟨1, i, 0, e0, e0⟩ = 0 ∧ a.t.f2 = c + 1 ∧ a.t.ops = [] ∧ Sx N M' (c + 1) A n (up S i (some a)) := by
  have hil : i < M.ses.length := by rw [h.ok.len]; exact hi
  have hb : M.begun ≠ 4096 := fun e => by
    have h1 := h.ok.inv.cnt
    have h2 := acts_le M.ses
    have h3 := h.ok.inv.s1
    rw [h.log] at h1
    omega
  have hcd : codeD M ⟨1, i, 0, e0, e0⟩ = 0 := by
    rw [code_at ⟨by decide, by decide⟩ hil (fun ho => by rcases ho with h | h | h <;> cases h) (fun h => by cases h) (fun _ => ⟨(h.act i).trans hs, hb⟩) (fun h => absurd rfl h), h.clock, if_neg (by omega)]
  have e : doM M ⟨1, i, 0, e0, e0⟩ = (beginM (M.tick (M.clock + 1)) i M.clock, an0) := by
    rw [do_ok0 hcd rfl]
    exact go_begin (M := M.tick (M.clock + 1)) ((h.act i).trans hs)
  refine ⟨_, ⟨⟨i, (M.at i).begun, M.clock + 1, 0, M.clock, 0, 0, []⟩, []⟩, e, hcd, by rw [h.clock], rfl, by have h9 := h.ok.step ⟨1, i, 0, e0, e0⟩; rw [e] at h9; exact h9, by rw [← h.clock]; rfl, h.A, h.log, fun j => ?_⟩
  show ((beginM (M.tick (M.clock + 1)) i M.clock).at j).act = _
  rw [at_begin (M := M.tick (M.clock + 1)) hil]
  unfold up
  split
  · rfl
  · exact h.act j
theorem Sx.write {N : Nat} {M : Mm} {c : Int} {A : List En} {n : Nat} {S : Nat → Option Ac} (h : Sx N M c A n S) {i : Nat} {a : Ac} {k v : ByteArray} (hs : S i = some a) (ho : a.t.ops.length ≠ 16) (hk : 0 < k.size ∧ k.size ≤ 8) (hv : v.size ≤ 16) (hc : c < 1099511627776) : ∃ M', doM M ⟨3, i, 0, k, v⟩ = (M', an0) ∧ codeD M ⟨3, i, 0, k, v⟩ = 0 ∧ Sx N M' (c + 1) A n (up S i (some (addO a (c + 1) ⟨2, k, true, v⟩))) := by
  have ha : (M.at i).act = some a := (h.act i).trans hs
  have hil := at_lt ha
  have hcd : codeD M ⟨3, i, 0, k, v⟩ = 0 := by
    rw [code_at ⟨by decide, by decide⟩ hil (fun _ => hk) (fun _ => hv) (fun h => by cases h) (fun _ => ⟨a, ha, fun _ => ho⟩), h.clock, if_neg (by omega)]
  have e : doM M ⟨3, i, 0, k, v⟩ = (operM (M.tick (M.clock + 1)) i a ⟨2, k, true, v⟩, an0) := by
    rw [do_ok0 hcd rfl]
    exact go_write (M := M.tick (M.clock + 1)) ha
  refine ⟨_, e, hcd, by have h9 := h.ok.step ⟨3, i, 0, k, v⟩; rw [e] at h9; exact h9, by rw [← h.clock]; rfl, h.A, h.log, fun j => ?_⟩
  show ((operM (M.tick (M.clock + 1)) i a ⟨2, k, true, v⟩).at j).act = _
  rw [at_oper (M := M.tick (M.clock + 1)) hil]
  unfold up
  split
  · rw [← h.clock]; rfl
  · exact h.act j
theorem Sx.commit {N : Nat} {M : Mm} {c : Int} {A : List En} {n : Nat} {S : Nat → Option Ac} (h : Sx N M c A n S) {i : Nat} {a : Ac} {k v : ByteArray} (hs : S i = some a) (ho : a.t.ops = [⟨2, k, true, v⟩]) (hk : 0 < k.size ∧ k.size ≤ 8) (hv : v.size ≤ 16) (hc : c < 1099511627776) (hn : n < 4096) :
    (afM (ch A k) a.t.f2 = none → ∃ M', doM M ⟨5, i, 0, e0, e0⟩ = (M', ⟨false, e0, 1⟩) ∧ codeD M ⟨5, i, 0, e0, e0⟩ = 0 ∧ Sx N M' (c + 1) (A ++ [⟨k, ⟨c + 1, n, true, v⟩⟩]) (n + 1) (up S i none)) ∧
      ((afM (ch A k) a.t.f2).isSome = true → ∃ M', doM M ⟨5, i, 0, e0, e0⟩ = (M', an0) ∧ codeD M ⟨5, i, 0, e0, e0⟩ = 0 ∧ Sx N M' (c + 1) A (n + 1) (up S i none)) := by
  have ha : (M.at i).act = some a := (h.act i).trans hs
  have hil := at_lt ha
  have hcd : codeD M ⟨5, i, 0, e0, e0⟩ = 0 := by
    rw [code_at ⟨by decide, by decide⟩ hil (fun ho => by rcases ho with h | h | h <;> cases h) (fun h => by cases h) (fun h => by cases h) (fun _ => ⟨a, ha, fun ho => by rcases ho with h | h | h <;> cases h⟩), h.clock, if_neg (by omega)]
  have e : doM M ⟨5, i, 0, e0, e0⟩ = (comtM (M.tick (M.clock + 1)) i a, comtA (M.tick (M.clock + 1)) a) := by
    rw [do_ok0 hcd rfl]
    exact go_commit (M := M.tick (M.clock + 1)) ha
  have hi1 : Inv (M.tick (M.clock + 1)) := h.ok.inv.tick (by omega) (by rw [h.clock]; omega)
  have hcl : (M.tick (M.clock + 1)).clock = c + 1 := by rw [← h.clock]; rfl
  have h9 := h.ok.step ⟨5, i, 0, e0, e0⟩
  refine ⟨fun hov => ?_, fun hov => ?_⟩
  · obtain ⟨e1, e2⟩ := one_commit hi1 h.ok.fl (i := i) ha ho (by rw [← h.A] at hov; exact hov) hk hv (show M.log.length < 4096 by rw [h.log]; exact hn) (fun e he => by have := (h.ok.inv.av e he).2; show e.x.c < M.clock + 1; omega)
    rw [e1, e2] at e
    rw [e] at h9
    refine ⟨_, e, hcd, h9, hcl, ?_, ?_, fun j => ?_⟩
    · show (M.tick (M.clock + 1)).A ++ _ = _
      rw [hcl]
      show M.A ++ [⟨k, ⟨c + 1, (M.log.length : Int), true, v⟩⟩] = _
      rw [h.A, h.log]
    · show (M.log ++ [_]).length = n + 1
      rw [List.length_append, h.log]
      rfl
    · rw [at_fin (M := { (M.tick (M.clock + 1)) with A := _ }) hil]
      unfold up
      split
      · rfl
      · exact h.act j
  · obtain ⟨e1, e2⟩ := one_lost (M := M.tick (M.clock + 1)) (i := i) h.ok.fl ho (by rw [← h.A] at hov; exact hov)
    rw [e1, e2] at e
    rw [e] at h9
    refine ⟨_, e, hcd, h9, hcl, h.A, ?_, fun j => ?_⟩
    · show (M.log ++ [_]).length = n + 1
      rw [List.length_append, h.log]
      rfl
    · rw [at_fin (M := M.tick (M.clock + 1)) hil]
      unfold up
      split
      · rfl
      · exact h.act j
abbrev b1st : ByteArray := ⟨#[102, 105, 114, 115, 116]⟩
abbrev b2nd : ByteArray := ⟨#[115, 101, 99, 111, 110, 100]⟩
theorem Sx.val {N : Nat} {M : Mm} {c : Int} {A : List En} {n : Nat} {S : Nat → Option Ac} {k : ByteArray} {x : Vn} (h : Sx N M c (A ++ [⟨k, x⟩]) n S) (hg : Good M.A) (hx : x.c ≤ c) (hA : ∀ e ∈ A, e.x.c < x.c) : valM M k = x := by
  unfold valM
  rw [h.clock, h.A, at_last (by rw [← h.A]; exact hg) hx hA]
  rfl
end Go.Proofs.Ytmghmacgljihcaa
