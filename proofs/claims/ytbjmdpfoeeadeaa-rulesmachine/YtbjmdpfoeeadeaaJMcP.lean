/- What is proved: plain facts: what a machine emits keeps the rules of shape and of sessions, in whatever order its records stand; no condition. -/
import Derived.Test.YtbjmdpfoeeadeaaMPla
import Derived.Test.YtbjmdpfoeeadeaaJRpP
namespace Go.Proofs.Ytbjmdpfoeeadeaa.Sw
open Go.RowKit

def cvO (o : Ch.Mc.OpM) : OpM := ⟨o.kind, o.key, o.found, o.value⟩
def cvT (t : Ch.Mc.TxM) : TxM := ⟨t.f0, t.f1, t.f2, t.f3, t.f4, t.f5, t.f6, t.ops.map cvO⟩
theorem cv_right {t : Ch.Mc.TxM} (h : Ch.Mc.RtT t) : Right (cvT t) := by
  refine ⟨⟨h.f0, h.f1, h.f2, h.f3, h.f4, h.f5, h.f6⟩, by simpa [cvT] using h.n, fun o ho => ?_⟩
  simp only [cvT, List.mem_map] at ho
  obtain ⟨x, hx, rfl⟩ := ho
  obtain ⟨a1, a2, a3, a4⟩ := h.o x hx
  refine ⟨fun e => ?_, a4⟩
  have e' : x.key.size = 0 ∨ 8 < x.key.size ∨ 16 < x.value.size := e
  omega
/-- Two transactions of a session: one ended before the other began. -/
def Apt (u t : TxM) : Prop := u.f0 = t.f0 → (u.f1 < t.f1 ∧ u.f3 < t.f2) ∨ (t.f1 < u.f1 ∧ t.f3 < u.f2)
theorem Apt.symm {u t : TxM} (h : Apt u t) : Apt t u := fun e => (h e.symm).symm
/-- What stands of an emitted log, in any order. -/
structure Emd (T : List TxM) : Prop where
  right : ∀ t ∈ T, Right t
  one : ∀ t ∈ T, t.f4 < t.f2 ∧ t.f2 < t.f3 ∧ t.f3 = t.f5
  two : T.Pairwise Apt
theorem Emd.perm {T T' : List TxM} (h : Emd T) (p : T'.Perm T) : Emd T' :=
  ⟨fun t ht => h.right t (p.mem_iff.1 ht), fun t ht => h.one t (p.mem_iff.1 ht), (p.pairwise_iff Apt.symm).2 h.two⟩
theorem emd_log {N : Nat} (fl : Int) (l : List Ch.Mc.Stp) (h0 : 1 ≤ N) (h1 : N ≤ 64) : Emd ((Ch.Mc.emM N fl l).log.map cvT) := by
  obtain ⟨a1, -, a3⟩ := Ch.Mc.em_log fl l h0 h1
  refine ⟨fun t ht => ?_, fun t ht => ?_, ?_⟩
  · obtain ⟨x, hx, rfl⟩ := List.mem_map.1 ht
    exact cv_right (Ch.Mc.em_right fl l h0 h1 x hx)
  · obtain ⟨x, hx, rfl⟩ := List.mem_map.1 ht
    obtain ⟨b1, b2, b3, b4, -⟩ := a1.one x hx
    exact ⟨b2, b3, b4⟩
  · rw [List.pairwise_map, List.pairwise_iff_getElem]
    intro i j hi hj hij e
    have gi : (Ch.Mc.emM N fl l).log[i]? = some (Ch.Mc.emM N fl l).log[i] := List.getElem?_eq_getElem hi
    have gj : (Ch.Mc.emM N fl l).log[j]? = some (Ch.Mc.emM N fl l).log[j] := List.getElem?_eq_getElem hj
    have e' : ((Ch.Mc.emM N fl l).log[i]).f0 = ((Ch.Mc.emM N fl l).log[j]).f0 := e
    obtain ⟨-, -, -, c4⟩ := a1.two i j _ _ hij gi gj
    have s1 := a1.seq i _ gi
    have s2 := a1.seq j _ gj
    have hm : Ch.Mc.nOf ((Ch.Mc.emM N fl l).log.take (i + 1)) ((Ch.Mc.emM N fl l).log[i]).f0 ≤ Ch.Mc.nOf ((Ch.Mc.emM N fl l).log.take j) ((Ch.Mc.emM N fl l).log[i]).f0 := by
      unfold Ch.Mc.nOf
      exact List.Sublist.countP_le (List.take_sublist_take_left (by omega))
    rw [List.take_succ_eq_append_getElem hi, Ch.Mc.nOf_snoc, if_pos rfl] at hm
    rw [← e'] at s2
    refine .inl ⟨?_, c4 e'⟩
    show ((Ch.Mc.emM N fl l).log[i]).f1 < ((Ch.Mc.emM N fl l).log[j]).f1
    omega
theorem shp_none {T : List TxM} (h : Emd T) {t : TxM} (ht : t ∈ T) (i : Int) : shp i t 0 = [] := by
  obtain ⟨b1, b2, b3⟩ := h.one t ht
  unfold shp sh1 sh2 sh3 sh4
  rw [if_pos b2, if_neg (by omega), if_neg (by omega), if_neg (by omega)]
  rfl
theorem shape_none {T : List TxM} (h : Emd T) {t : TxM} (ht : t ∈ T) {i : Nat} (hi : i < 4096) : codS i t 0 = 0 ∧ lisS i t 0 = [] := by
  have h1 : codS i t 0 = 0 := by
    unfold codS
    rw [if_neg (by omega), if_neg (by omega)]
    exact valid_zero.2 (h.right t ht)
  refine ⟨h1, ?_⟩
  unfold lisS
  rw [if_pos h1, shp_none h ht]
theorem adj_none {T : List TxM} (h : Emd T) (j : Nat) (hj : j ≤ T.length) : adj (SS T) j = [] := by
  induction j with
  | zero => rfl
  | succ j ih =>
    rw [adj, ih (by omega), List.nil_append]
    split
    · rfl
    · rename_i h0
      have hl := SS_len T
      have hr : (SS T)[j]? = some ((SS T)[j]'(by omega)) := List.getElem?_eq_getElem _
      have hp : (SS T)[j - 1]? = some ((SS T)[j - 1]'(by omega)) := List.getElem?_eq_getElem _
      have hb := bef2 (pw_get (SS_strict T) hp hr (by omega))
      obtain ⟨i, t, hi, er⟩ := mem_SS (T := T) (r := (SS T)[j]'(by omega)) (List.getElem_mem _)
      obtain ⟨k, x, hk, ep⟩ := mem_SS (T := T) (r := (SS T)[j - 1]'(by omega)) (List.getElem_mem _)
      simp only [List.getD, hr, hp, Option.getD_some]
      rw [er, ep] at hb ⊢
      have hb' : x.f0 < t.f0 ∨ (x.f0 = t.f0 ∧ (x.f1 < t.f1 ∨ (x.f1 = t.f1 ∧ (k : Int) < (i : Int)))) := hb
      unfold fol
      show (if ¬ t.f0 = x.f0 then [] else if t.f1 = x.f1 then _ else if t.f2 < x.f3 then _ else []) = []
      by_cases e0 : t.f0 = x.f0
      · rw [if_neg (by simpa using e0)]
        have hki : k ≠ i := by
          intro e
          subst e
          rw [hk] at hi
          cases hi
          omega
        have hap : Apt x t := by
          rcases Nat.lt_or_gt_of_ne hki with hlt | hlt
          · exact pw_get h.two hk hi hlt
          · exact (pw_get h.two hi hk hlt).symm
        have := hap e0.symm
        rw [if_neg (by omega), if_neg (by omega)]
      · rw [if_pos e0]
end Go.Proofs.Ytbjmdpfoeeadeaa.Sw
