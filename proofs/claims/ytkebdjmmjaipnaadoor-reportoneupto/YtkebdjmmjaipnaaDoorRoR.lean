/- What is proved: report's reader, plain: each field that is written is read back, and what is read is what is written; no condition. -/
import Derived.Test.YtkebdjmmjaipnaaDoorRoK
import Derived.Test.YtkebdjmmjaipnaaDoorNoDb
namespace Go.Proofs.YtkebdjmmjaipnaaDoor
open Go.RowKit

theorem lead_at22 {f : UInt8 → Bool} : ∀ {l : List UInt8}, lead f l < l.length → ∃ b, f b = false ∧ l = l.take (lead f l) ++ b :: l.drop (lead f l + 1)
  | [], h => by simp at h
  | b :: l, h => by
    by_cases hb : f b = true
    · have e : lead f (b :: l) = lead f l + 1 := by simp [lead, hb]
      rw [e] at h ⊢
      obtain ⟨c, h1, h2⟩ := lead_at22 (l := l) (by simpa using h)
      exact ⟨c, h1, by simpa using h2⟩
    · have e : lead f (b :: l) = 0 := by simp [lead, hb]
      rw [e]
      exact ⟨b, by simpa using hb, rfl⟩
theorem all_nc {f : UInt8 → Bool} {c : UInt8} (hc : f c = false) {l : List UInt8} (h : l.all f = true) : l.all (fun b => b != c) = true := by
  rw [List.all_eq_true] at h ⊢
  intro b hb
  have := h b hb
  rw [bne_iff_ne]
  intro e
  rw [e, hc] at this
  cases this
theorem ut_app {c : UInt8} {v : List UInt8} (h : v.all (fun b => b != c) = true) (r : List UInt8) : utV c ⟨v ++ c :: r, false⟩ = v ∧ utS c ⟨v ++ c :: r, false⟩ = ⟨r, false⟩ := by
  have hl : lead (fun b => b != c) (v ++ c :: r) = v.length := lead_stop h (halt_cons (by simp) _)
  have hn : ¬ v.length = (v ++ c :: r).length := by rw [List.length_append, List.length_cons]; omega
  unfold utV utS
  rw [if_neg (show ¬ false = true by decide), if_neg (show ¬ false = true by decide)]
  unfold cutb
  dsimp only
  rw [hl, if_neg hn]
  refine ⟨List.take_left' rfl, ?_⟩
  have e : (v ++ c :: r).drop (v.length + 1) = r := by rw [← List.drop_drop, List.drop_left' rfl]; rfl
  dsimp only
  rw [e]
  rfl
theorem ut_inv {c : UInt8} {s : Rs} (h : (utS c s).f = false) : s.f = false ∧ s.l = utV c s ++ c :: (utS c s).l := by
  unfold utS at h ⊢
  unfold utV
  by_cases hf : s.f = true
  · rw [if_pos hf] at h
    rw [hf] at h
    cases h
  · rw [if_neg hf] at h ⊢
    rw [if_neg hf]
    refine ⟨by simpa using hf, ?_⟩
    unfold cutb at h ⊢
    by_cases hk : lead (fun b => b != c) s.l = s.l.length
    · rw [if_pos hk] at h
      cases h
    · rw [if_neg hk]
      dsimp only
      have := lead_le (fun b => b != c) s.l
      obtain ⟨b, hb, e⟩ := lead_at22 (f := fun b => b != c) (l := s.l) (by omega)
      have hb' : b = c := by simpa using hb
      subst hb'
      exact e
theorem nuR_app {n : Nat} (h : n < 1000000000000000) (p : List UInt8) {c : UInt8} (hc : dg c = false) (r : List UInt8) : nuN p c ⟨numL p n ++ c :: r, false⟩ = n ∧ nuT p c ⟨numL p n ++ c :: r, false⟩ = ⟨r, false⟩ := by
  have e : mst p ⟨numL p n ++ c :: r, false⟩ = ⟨Lib.decDigits n ++ c :: r, false⟩ := by
    unfold numL
    rw [itoa_nat, List.append_assoc]
    exact mst_app _ _
  obtain ⟨u1, u2⟩ := ut_app (all_nc hc (dec_dg n)) r
  unfold nuN nuT bad
  rw [e, u1, u2, numb_dec h]
  exact ⟨rfl, rfl⟩
theorem bad_inv {b : Bool} {s : Rs} (h : (bad b s).f = false) : s.f = false ∧ b = false := by
  unfold bad at h
  simpa using h
theorem nu_inv {p : List UInt8} {c : UInt8} {s : Rs} (h : (nuT p c s).f = false) : s.f = false ∧ nuN p c s < 1000000000000000 ∧ s.l = numL p (nuN p c s) ++ c :: (nuT p c s).l := by
  obtain ⟨h1, h2⟩ := bad_inv h
  obtain ⟨g1, g2⟩ := ut_inv h1
  obtain ⟨i1, i2⟩ := mst_inv g1
  cases ho : numb (utV c (mst p s)) with
  | none => rw [ho] at h2; cases h2
  | some n =>
    have e1 : nuN p c s = n := by unfold nuN; rw [ho]; rfl
    obtain ⟨j1, j2⟩ := numb_inv ho
    refine ⟨i1, by rw [e1]; exact j2, ?_⟩
    have e2 : (nuT p c s).l = (utS c (mst p s)).l := rfl
    rw [e1, e2, i2]
    unfold numL
    rw [itoa_nat, j1, List.append_assoc, ← g2]
theorem wo_app (v p r : List UInt8) : woN p ⟨(p ++ wd v) ++ 32 :: r, false⟩ = v ∧ woT p ⟨(p ++ wd v) ++ 32 :: r, false⟩ = ⟨r, false⟩ := by
  have e : mst p ⟨(p ++ wd v) ++ 32 :: r, false⟩ = ⟨wd v ++ 32 :: r, false⟩ := by
    rw [List.append_assoc]
    exact mst_app _ _
  obtain ⟨u1, u2⟩ := ut_app (all_nc (f := wch) (c := 32) (by decide) (wd_wch v)) r
  unfold woN woT bad
  rw [e, u1, u2, uwd_wd]
  exact ⟨rfl, rfl⟩
theorem wo_inv {p : List UInt8} {s : Rs} (h : (woT p s).f = false) : s.f = false ∧ s.l = (p ++ wd (woN p s)) ++ 32 :: (woT p s).l := by
  obtain ⟨h1, h2⟩ := bad_inv h
  obtain ⟨g1, g2⟩ := ut_inv h1
  obtain ⟨i1, i2⟩ := mst_inv g1
  cases ho : uwd (utV 32 (mst p s)) with
  | none => rw [ho] at h2; cases h2
  | some v =>
    have e1 : woN p s = v := by unfold woN; rw [ho]; rfl
    refine ⟨i1, ?_⟩
    have e2 : (woT p s).l = (utS 32 (mst p s)).l := rfl
    rw [e1, e2, i2, wd_uwd ho, List.append_assoc, ← g2]
theorem has_pre (p a b : List UInt8) : Lib.hasPrefix (p ++ a) (p ++ b) = Lib.hasPrefix a b := by
  unfold Lib.hasPrefix
  induction p with
  | nil => rfl
  | cons x p ih => simpa [List.isPrefixOf] using ih
theorem dash_num (p : List UInt8) (n : Nat) (r : List UInt8) (f : Bool) : hasp (p ++ [45, 32]) ⟨numL p n ++ r, f⟩ = false := by
  unfold hasp numL
  rw [itoa_nat, List.append_assoc]
  dsimp only
  rw [has_pre]
  cases e : Lib.decDigits n with
  | nil => exact absurd e (dec_ne n)
  | cons b l =>
    have h := dec_dg n
    rw [e] at h
    simp only [List.all_cons, Bool.and_eq_true] at h
    exact has_ne (fun e => by have := h.1; rw [e] at this; exact absurd this (by decide)) _ _
theorem dash_wd (p v r : List UInt8) (f : Bool) : hasp (p ++ [45, 32]) ⟨(p ++ wd v) ++ r, f⟩ = false := by
  unfold hasp
  rw [List.append_assoc]
  dsimp only
  rw [has_pre]
  obtain ⟨b, r', e, hb⟩ := wd_cons v
  rw [e]
  exact has_ne (fun e => by subst e; exact absurd hb (by decide)) _ _
theorem pl_app {n : Int} (h0 : -1 ≤ n) (h1 : n < 1000000000000000) (p r : List UInt8) : plN p ⟨plcL p n ++ 32 :: r, false⟩ = n ∧ plT p ⟨plcL p n ++ 32 :: r, false⟩ = ⟨r, false⟩ := by
  by_cases hn : n < 0
  · obtain rfl : n = -1 := by omega
    have e : plcL p (-1) ++ 32 :: r = (p ++ [45, 32]) ++ r := by
      unfold plcL
      rw [if_pos (by decide), List.append_assoc, List.append_assoc]
      rfl
    unfold plN plT
    rw [e, if_pos (hasp_app _ _ _), if_pos (hasp_app _ _ _), cutp_app]
    exact ⟨rfl, rfl⟩
  · obtain ⟨m, rfl⟩ : ∃ m : Nat, n = (m : Int) := ⟨n.toNat, by omega⟩
    have e : plcL p (m : Int) = numL p (m : Int) := if_neg hn
    have d := dash_num p m (32 :: r) false
    obtain ⟨u1, u2⟩ := nuR_app (n := m) (by omega) p (c := 32) (by decide) r
    unfold plN plT
    rw [e, d, cutp_no d, if_neg (by decide), if_neg (by decide), u1, u2]
    exact ⟨rfl, rfl⟩
theorem pl_inv {p : List UInt8} {s : Rs} (h : (plT p s).f = false) : s.f = false ∧ (-1 ≤ plN p s ∧ plN p s < 1000000000000000) ∧ s.l = plcL p (plN p s) ++ 32 :: (plT p s).l := by
  unfold plT at h ⊢
  unfold plN
  by_cases hd : hasp (p ++ [45, 32]) s = true
  · rw [if_pos hd] at h ⊢
    rw [if_pos hd]
    refine ⟨h, ⟨by decide, by decide⟩, ?_⟩
    have e := cut_inv hd
    unfold plcL
    rw [if_pos (by decide), List.append_assoc]
    rw [List.append_assoc] at e
    exact e
  · have d : hasp (p ++ [45, 32]) s = false := by simpa using hd
    rw [if_neg hd] at h ⊢
    rw [if_neg hd]
    rw [cutp_no d] at h ⊢
    obtain ⟨g1, g2, g3⟩ := nu_inv h
    refine ⟨g1, ⟨by omega, by omega⟩, ?_⟩
    unfold plcL
    rw [if_neg (by omega)]
    exact g3
theorem va_app {th : Bool} {v : List UInt8} (h : th = true ∨ v = []) (p r : List UInt8) : vaB p ⟨vaL p th v ++ 32 :: r, false⟩ = th ∧ vaN p ⟨vaL p th v ++ 32 :: r, false⟩ = v ∧ vaT p ⟨vaL p th v ++ 32 :: r, false⟩ = ⟨r, false⟩ := by
  cases th with
  | false =>
    have hv : v = [] := h.resolve_left (by decide)
    subst hv
    have e : vaL p false [] ++ 32 :: r = (p ++ [45, 32]) ++ r := by
      unfold vaL
      rw [if_neg (by decide), List.append_assoc, List.append_assoc]
      rfl
    unfold vaB vaN vaT
    rw [e, hasp_app, if_pos rfl, if_pos rfl, cutp_app]
    exact ⟨rfl, rfl, rfl⟩
  | true =>
    have e : vaL p true v = p ++ wd v := by
      unfold vaL
      rw [if_pos rfl]
    have d := dash_wd p v (32 :: r) false
    obtain ⟨u1, u2⟩ := wo_app v p r
    unfold vaB vaN vaT
    rw [e, d, cutp_no d, if_neg (by decide), if_neg (by decide), u1, u2]
    exact ⟨rfl, rfl, rfl⟩
theorem va_inv {p : List UInt8} {s : Rs} (h : (vaT p s).f = false) : s.f = false ∧ (vaB p s = true ∨ vaN p s = []) ∧ s.l = vaL p (vaB p s) (vaN p s) ++ 32 :: (vaT p s).l := by
  unfold vaT at h ⊢
  unfold vaB vaN
  by_cases hd : hasp (p ++ [45, 32]) s = true
  · rw [if_pos hd] at h ⊢
    rw [if_pos hd, hd]
    refine ⟨h, .inr rfl, ?_⟩
    have e := cut_inv hd
    unfold vaL
    rw [if_neg (by decide), List.append_assoc]
    rw [List.append_assoc] at e
    exact e
  · have d : hasp (p ++ [45, 32]) s = false := by simpa using hd
    rw [if_neg hd] at h ⊢
    rw [if_neg hd, d]
    rw [cutp_no d] at h ⊢
    obtain ⟨g1, g2⟩ := wo_inv h
    refine ⟨g1, .inl rfl, ?_⟩
    unfold vaL
    rw [if_pos (by decide)]
    exact g2
theorem kd_app {ws : List (List UInt8)} {v : List UInt8} {i : Nat} {c : UInt8} (h : ∀ j, j < i → ∀ x, ws[j]? = some x → x ≠ v) (hi : ws[i]? = some v) (hv : v.all (fun b => b != c) = true) (r : List UInt8) : kdN ws c ⟨v ++ c :: r, false⟩ = i + 1 ∧ kdT ws c ⟨v ++ c :: r, false⟩ = ⟨r, false⟩ := by
  obtain ⟨u1, u2⟩ := ut_app hv r
  have hp := plc_at h hi
  have hl := (List.getElem?_eq_some_iff.1 hi).1
  unfold kdN kdT
  rw [u1, u2, hp, if_pos hl, if_pos hl]
  exact ⟨rfl, rfl⟩
theorem kd_inv {ws : List (List UInt8)} {c : UInt8} {s : Rs} (h : (kdT ws c s).f = false) : s.f = false ∧ ∃ i v, kdN ws c s = i + 1 ∧ ws[i]? = some v ∧ s.l = v ++ c :: (kdT ws c s).l := by
  unfold kdT at h ⊢
  unfold kdN
  by_cases hl : plc ws (utV c s) < ws.length
  · rw [if_pos hl] at h ⊢
    rw [if_pos hl]
    obtain ⟨g1, g2⟩ := ut_inv h
    refine ⟨g1, plc ws (utV c s), utV c s, rfl, ?_, g2⟩
    have := List.findIdx_getElem (p := fun x => x == utV c s) (w := hl)
    rw [List.getElem?_eq_getElem hl]
    exact congrArg some (eq_of_beq this)
  · rw [if_neg hl] at h
    cases h
end Go.Proofs.YtkebdjmmjaipnaaDoor
