/- What is proved: plain facts: versions of later times change nothing of what was seen at a time; no condition. -/
import Derived.Test.YtmlefbpdlgnkgabKOwn
namespace Go.Proofs.Ytmlefbpdlgnkgab
open Go.RowKit

theorem cnt_more {l m : List Vn} {t : Int} (h : ∀ y ∈ m, t < y.c) : cnt (l ++ m) t = cnt l t := by
  unfold cnt
  rw [List.countP_append]
  have : List.countP (fun y : Vn => decide (y.c ≤ t)) m = 0 := by
    rw [List.countP_eq_zero]
    intro y hy
    have := h y hy
    simp only [decide_eq_true_eq]
    omega
  omega
theorem at_more {l m : List Vn} {t : Int} (h : ∀ y ∈ m, t < y.c) : atM (l ++ m) t = atM l t := by
  unfold atM
  rw [cnt_more h]
  split
  · rfl
  · have := cnt_le l t
    rw [List.getElem?_append_left (by omega)]
theorem at_all {l : List Vn} {t t' : Int} (h : ∀ y ∈ l, y.c ≤ t) (ht : t ≤ t') : atM l t' = atM l t := by
  have e : ∀ s, t ≤ s → cnt l s = l.length := fun s hs => by
    unfold cnt
    rw [List.countP_eq_length]
    intro y hy
    have := h y hy
    simp only [decide_eq_true_eq]
    omega
  unfold atM
  rw [e t (Int.le_refl _), e t' ht]
/-- A machine whose transaction of session 3 began when the versions were A. -/
structure Snp (A : List En) (a : Ac) (M : Mm) : Prop where
  ok : Ok 4 M
  act : (M.at 3).act = some a
  A : ∃ B, M.A = A ++ B ∧ ∀ e ∈ B, a.t.f2 < e.x.c
  clock : a.t.f2 ≤ M.clock
theorem Snp.other {A : List En} {a : Ac} {M : Mm} (h : Snp A a M) {s : Stp} (hs : s.ses ≠ 3) : Snp A a (doM M s).1 := by
  rcases do_rel M s with h1 | h1
  · rw [h1]; exact h
  · obtain ⟨B, e1, e2⟩ := h.A
    obtain ⟨B', e3, e4⟩ := h1.A
    have hg := h1.gap
    have hc := h1.clock
    have hk := h.clock
    refine ⟨h.ok.step s, by rw [h1.at_ne (j := 3) hs]; exact h.act, ⟨B ++ B', by rw [e3, e1, List.append_assoc], fun e he => ?_⟩, by omega⟩
    rcases List.mem_append.1 he with he | he
    · exact e2 e he
    · have := e4 e he
      omega
theorem Snp.see {A : List En} {a : Ac} {M : Mm} {k : ByteArray} {t : Int} (h : Snp A a M) (hl : lastW a.t.ops k = none) (hA : ∀ e ∈ A, e.x.c ≤ t) (ht : t ≤ a.t.f2) (c : Int) : seeM (M.tick c) a.t k = (((atM (ch A k) t).getD v0).f, ((atM (ch A k) t).getD v0).v) := by
  obtain ⟨B, e1, e2⟩ := h.A
  have hf : M.flaw = 0 := h.ok.fl
  have e3 : atM (ch M.A k) a.t.f2 = atM (ch A k) t := by
    rw [e1, ch_append, at_more (fun y hy => ?_), at_all (t := t) (fun y hy => ?_) ht]
    · obtain ⟨e, he, -, rfl⟩ := mem_ch.1 hy
      exact hA e he
    · obtain ⟨e, he, -, rfl⟩ := mem_ch.1 hy
      exact e2 e he
  have e4 : comM M.flaw c M.A k a.t.f2 = (atM (ch A k) t).getD v0 := by
    unfold comM
    rw [hf, if_neg (by decide), e3]
    cases atM (ch A k) t with
    | none => rfl
    | some v => simp only; rw [if_neg (by decide)]; rfl
  unfold seeM
  rw [hl]
  simp only
  rw [if_neg (fun h => by have h5 : M.flaw = 4 := h.1; rw [hf] at h5; cases h5)]
  show ((comM M.flaw c M.A k a.t.f2).f, (comM M.flaw c M.A k a.t.f2).v) = _
  rw [e4]
theorem lastW_nil (k : ByteArray) : lastW [] k = none := rfl
theorem lastW_read {l : List OpM} {k : ByteArray} {o : OpM} (h : o.kind = 1) (hl : lastW l k = none) : lastW (l ++ [o]) k = none := by
  rw [lastW_snoc, if_neg (by unfold isW; rw [h]; simp), hl]
end Go.Proofs.Ytmlefbpdlgnkgab
