/- report's reader, plain: each field, a violation, a list and an outcome that are written are read back, and what is read is what is written; no condition -/
import Derived.Test.YtfhaiklfbnfdlaaDoorRoK
import Derived.Test.YtfhaiklfbnfdlaaDoorNoDb
import Derived.Test.YtfhaiklfbnfdlaaDoorRoM
namespace Go.Proofs.YtfhaiklfbnfdlaaDoor
open Go.RowKit

theorem lead_at22 {f : UInt8 → Bool} : ∀ {l : List UInt8}, lead f l < l.length → ∃ b, f b = false ∧ l = l.take (lead f l) ++ b :: l.drop (lead f l + 1)
  | [], h => by simp at h
  | b :: l, h => by
    by_cases hb : f b = true
    · have e : lead f (b :: l) = lead f l + 1 := by simp [lead, hb]
      rw [e] at h ⊢
      obtain ⟨c, h1, h2⟩ := lead_at22 (l := l) (by simpa using h)
      exact ⟨c, h1, by simpa using h2⟩
    · have e : lead f (b :: l) = 0 := by simp [lead, hb]
      rw [e]
      exact ⟨b, by simpa using hb, rfl⟩
theorem all_nc {f : UInt8 → Bool} {c : UInt8} (hc : f c = false) {l : List UInt8} (h : l.all f = true) : l.all (fun b => b != c) = true := by
  rw [List.all_eq_true] at h ⊢
  intro b hb
  have := h b hb
  rw [bne_iff_ne]
  intro e
  rw [e, hc] at this
  cases this
theorem ut_app {c : UInt8} {v : List UInt8} (h : v.all (fun b => b != c) = true) (r : List UInt8) : utV c ⟨v ++ c :: r, false⟩ = v ∧ utS c ⟨v ++ c :: r, false⟩ = ⟨r, false⟩ := by
  have hl : lead (fun b => b != c) (v ++ c :: r) = v.length := lead_stop h (halt_cons (by simp) _)
  have hn : ¬ v.length = (v ++ c :: r).length := by rw [List.length_append, List.length_cons]; omega
  unfold utV utS
  rw [if_neg (show ¬ false = true by decide), if_neg (show ¬ false = true by decide)]
  unfold cutb
  dsimp only
  rw [hl, if_neg hn]
  refine ⟨List.take_left' rfl, ?_⟩
  have e : (v ++ c :: r).drop (v.length + 1) = r := by rw [← List.drop_drop, List.drop_left' rfl]; rfl
  dsimp only
  rw [e]
  rfl
theorem ut_inv {c : UInt8} {s : Rs} (h : (utS c s).f = false) : s.f = false ∧ s.l = utV c s ++ c :: (utS c s).l := by
  unfold utS at h ⊢
  unfold utV
  by_cases hf : s.f = true
  · rw [if_pos hf] at h
    rw [hf] at h
    cases h
  · rw [if_neg hf] at h ⊢
    rw [if_neg hf]
    refine ⟨by simpa using hf, ?_⟩
    unfold cutb at h ⊢
    by_cases hk : lead (fun b => b != c) s.l = s.l.length
    · rw [if_pos hk] at h
      cases h
    · rw [if_neg hk]
      dsimp only
      have := lead_le (fun b => b != c) s.l
      obtain ⟨b, hb, e⟩ := lead_at22 (f := fun b => b != c) (l := s.l) (by omega)
      have hb' : b = c := by simpa using hb
      subst hb'
      exact e
theorem nuR_app {n : Nat} (h : n < 1000000000000000) (p : List UInt8) {c : UInt8} (hc : dg c = false) (r : List UInt8) : nuN p c ⟨numL p n ++ c :: r, false⟩ = n ∧ nuT p c ⟨numL p n ++ c :: r, false⟩ = ⟨r, false⟩ := by
  have e : mst p ⟨numL p n ++ c :: r, false⟩ = ⟨Lib.decDigits n ++ c :: r, false⟩ := by
    unfold numL
    rw [itoa_nat, List.append_assoc]
    exact mst_app _ _
  obtain ⟨u1, u2⟩ := ut_app (all_nc hc (dec_dg n)) r
  unfold nuN nuT bad
  rw [e, u1, u2, numb_dec h]
  exact ⟨rfl, rfl⟩
theorem bad_inv {b : Bool} {s : Rs} (h : (bad b s).f = false) : s.f = false ∧ b = false := by
  unfold bad at h
  simpa using h
theorem nu_inv {p : List UInt8} {c : UInt8} {s : Rs} (h : (nuT p c s).f = false) : s.f = false ∧ nuN p c s < 1000000000000000 ∧ s.l = numL p (nuN p c s) ++ c :: (nuT p c s).l := by
  obtain ⟨h1, h2⟩ := bad_inv h
  obtain ⟨g1, g2⟩ := ut_inv h1
  obtain ⟨i1, i2⟩ := mst_inv g1
  cases ho : numb (utV c (mst p s)) with
  | none => rw [ho] at h2; cases h2
  | some n =>
    have e1 : nuN p c s = n := by unfold nuN; rw [ho]; rfl
    obtain ⟨j1, j2⟩ := numb_inv ho
    refine ⟨i1, by rw [e1]; exact j2, ?_⟩
    have e2 : (nuT p c s).l = (utS c (mst p s)).l := rfl
    rw [e1, e2, i2]
    unfold numL
    rw [itoa_nat, j1, List.append_assoc, ← g2]
theorem wo_app (v p r : List UInt8) : woN p ⟨(p ++ wd v) ++ 32 :: r, false⟩ = v ∧ woT p ⟨(p ++ wd v) ++ 32 :: r, false⟩ = ⟨r, false⟩ := by
  have e : mst p ⟨(p ++ wd v) ++ 32 :: r, false⟩ = ⟨wd v ++ 32 :: r, false⟩ := by
    rw [List.append_assoc]
    exact mst_app _ _
  obtain ⟨u1, u2⟩ := ut_app (all_nc (f := wch) (c := 32) (by decide) (wd_wch v)) r
  unfold woN woT bad
  rw [e, u1, u2, uwd_wd]
  exact ⟨rfl, rfl⟩
theorem wo_inv {p : List UInt8} {s : Rs} (h : (woT p s).f = false) : s.f = false ∧ s.l = (p ++ wd (woN p s)) ++ 32 :: (woT p s).l := by
  obtain ⟨h1, h2⟩ := bad_inv h
  obtain ⟨g1, g2⟩ := ut_inv h1
  obtain ⟨i1, i2⟩ := mst_inv g1
  cases ho : uwd (utV 32 (mst p s)) with
  | none => rw [ho] at h2; cases h2
  | some v =>
    have e1 : woN p s = v := by unfold woN; rw [ho]; rfl
    refine ⟨i1, ?_⟩
    have e2 : (woT p s).l = (utS 32 (mst p s)).l := rfl
    rw [e1, e2, i2, wd_uwd ho, List.append_assoc, ← g2]
theorem has_pre (p a b : List UInt8) : Lib.hasPrefix (p ++ a) (p ++ b) = Lib.hasPrefix a b := by
  unfold Lib.hasPrefix
  induction p with
  | nil => rfl
  | cons x p ih => simpa [List.isPrefixOf] using ih
theorem dash_num (p : List UInt8) (n : Nat) (r : List UInt8) (f : Bool) : hasp (p ++ [45, 32]) ⟨numL p n ++ r, f⟩ = false := by
  unfold hasp numL
  rw [itoa_nat, List.append_assoc]
  dsimp only
  rw [has_pre]
  cases e : Lib.decDigits n with
  | nil => exact absurd e (dec_ne n)
  | cons b l =>
    have h := dec_dg n
    rw [e] at h
    simp only [List.all_cons, Bool.and_eq_true] at h
    exact has_ne (fun e => by have := h.1; rw [e] at this; exact absurd this (by decide)) _ _
theorem dash_wd (p v r : List UInt8) (f : Bool) : hasp (p ++ [45, 32]) ⟨(p ++ wd v) ++ r, f⟩ = false := by
  unfold hasp
  rw [List.append_assoc]
  dsimp only
  rw [has_pre]
  obtain ⟨b, r', e, hb⟩ := wd_cons v
  rw [e]
  exact has_ne (fun e => by subst e; exact absurd hb (by decide)) _ _
theorem pl_app {n : Int} (h0 : -1 ≤ n) (h1 : n < 1000000000000000) (p r : List UInt8) : plN p ⟨plcL p n ++ 32 :: r, false⟩ = n ∧ plT p ⟨plcL p n ++ 32 :: r, false⟩ = ⟨r, false⟩ := by
  by_cases hn : n < 0
  · obtain rfl : n = -1 := by omega
    have e : plcL p (-1) ++ 32 :: r = (p ++ [45, 32]) ++ r := by
      unfold plcL
      rw [if_pos (by decide), List.append_assoc, List.append_assoc]
      rfl
    unfold plN plT
    rw [e, if_pos (hasp_app _ _ _), if_pos (hasp_app _ _ _), cutp_app]
    exact ⟨rfl, rfl⟩
  · obtain ⟨m, rfl⟩ : ∃ m : Nat, n = (m : Int) := ⟨n.toNat, by omega⟩
    have e : plcL p (m : Int) = numL p (m : Int) := if_neg hn
    have d := dash_num p m (32 :: r) false
    obtain ⟨u1, u2⟩ := nuR_app (n := m) (by omega) p (c := 32) (by decide) r
    unfold plN plT
    rw [e, d, cutp_no d, if_neg (by decide), if_neg (by decide), u1, u2]
    exact ⟨rfl, rfl⟩
theorem pl_inv {p : List UInt8} {s : Rs} (h : (plT p s).f = false) : s.f = false ∧ (-1 ≤ plN p s ∧ plN p s < 1000000000000000) ∧ s.l = plcL p (plN p s) ++ 32 :: (plT p s).l := by
  unfold plT at h ⊢
  unfold plN
  by_cases hd : hasp (p ++ [45, 32]) s = true
  · rw [if_pos hd] at h ⊢
    rw [if_pos hd]
    refine ⟨h, ⟨by decide, by decide⟩, ?_⟩
    have e := cut_inv hd
    unfold plcL
    rw [if_pos (by decide), List.append_assoc]
    rw [List.append_assoc] at e
    exact e
  · have d : hasp (p ++ [45, 32]) s = false := by simpa using hd
    rw [if_neg hd] at h ⊢
    rw [if_neg hd]
    rw [cutp_no d] at h ⊢
    obtain ⟨g1, g2, g3⟩ := nu_inv h
    refine ⟨g1, ⟨by omega, by omega⟩, ?_⟩
    unfold plcL
    rw [if_neg (by omega)]
    exact g3
theorem va_app {th : Bool} {v : List UInt8} (h : th = true ∨ v = []) (p r : List UInt8) : vaB p ⟨vaL p th v ++ 32 :: r, false⟩ = th ∧ vaN p ⟨vaL p th v ++ 32 :: r, false⟩ = v ∧ vaT p ⟨vaL p th v ++ 32 :: r, false⟩ = ⟨r, false⟩ := by
  cases th with
  | false =>
    have hv : v = [] := h.resolve_left (by decide)
    subst hv
    have e : vaL p false [] ++ 32 :: r = (p ++ [45, 32]) ++ r := by
      unfold vaL
      rw [if_neg (by decide), List.append_assoc, List.append_assoc]
      rfl
    unfold vaB vaN vaT
    rw [e, hasp_app, if_pos rfl, if_pos rfl, cutp_app]
    exact ⟨rfl, rfl, rfl⟩
  | true =>
    have e : vaL p true v = p ++ wd v := by
      unfold vaL
      rw [if_pos rfl]
    have d := dash_wd p v (32 :: r) false
    obtain ⟨u1, u2⟩ := wo_app v p r
    unfold vaB vaN vaT
    rw [e, d, cutp_no d, if_neg (by decide), if_neg (by decide), u1, u2]
    exact ⟨rfl, rfl, rfl⟩
theorem va_inv {p : List UInt8} {s : Rs} (h : (vaT p s).f = false) : s.f = false ∧ (vaB p s = true ∨ vaN p s = []) ∧ s.l = vaL p (vaB p s) (vaN p s) ++ 32 :: (vaT p s).l := by
  unfold vaT at h ⊢
  unfold vaB vaN
  by_cases hd : hasp (p ++ [45, 32]) s = true
  · rw [if_pos hd] at h ⊢
    rw [if_pos hd, hd]
    refine ⟨h, .inr rfl, ?_⟩
    have e := cut_inv hd
    unfold vaL
    rw [if_neg (by decide), List.append_assoc]
    rw [List.append_assoc] at e
    exact e
  · have d : hasp (p ++ [45, 32]) s = false := by simpa using hd
    rw [if_neg hd] at h ⊢
    rw [if_neg hd, d]
    rw [cutp_no d] at h ⊢
    obtain ⟨g1, g2⟩ := wo_inv h
    refine ⟨g1, .inl rfl, ?_⟩
    unfold vaL
    rw [if_pos (by decide)]
    exact g2
theorem kd_app {ws : List (List UInt8)} {v : List UInt8} {i : Nat} {c : UInt8} (h : ∀ j, j < i → ∀ x, ws[j]? = some x → x ≠ v) (hi : ws[i]? = some v) (hv : v.all (fun b => b != c) = true) (r : List UInt8) : kdN ws c ⟨v ++ c :: r, false⟩ = i + 1 ∧ kdT ws c ⟨v ++ c :: r, false⟩ = ⟨r, false⟩ := by
  obtain ⟨u1, u2⟩ := ut_app hv r
  have hp := plc_at h hi
  have hl := (List.getElem?_eq_some_iff.1 hi).1
  unfold kdN kdT
  rw [u1, u2, hp, if_pos hl, if_pos hl]
  exact ⟨rfl, rfl⟩
theorem kd_inv {ws : List (List UInt8)} {c : UInt8} {s : Rs} (h : (kdT ws c s).f = false) : s.f = false ∧ ∃ i v, kdN ws c s = i + 1 ∧ ws[i]? = some v ∧ s.l = v ++ c :: (kdT ws c s).l := by
  unfold kdT at h ⊢
  unfold kdN
  by_cases hl : plc ws (utV c s) < ws.length
  · rw [if_pos hl] at h ⊢
    rw [if_pos hl]
    obtain ⟨g1, g2⟩ := ut_inv h
    refine ⟨g1, plc ws (utV c s), utV c s, rfl, ?_, g2⟩
    have := List.findIdx_getElem (p := fun x => x == utV c s) (w := hl)
    rw [List.getElem?_eq_getElem hl]
    exact congrArg some (eq_of_beq this)
  · rw [if_neg hl] at h
    cases h
end Go.Proofs.YtfhaiklfbnfdlaaDoor

namespace Go.Proofs.YtfhaiklfbnfdlaaDoor
open Go.RowKit

theorem plcL_cons (b : UInt8) (p : List UInt8) (n : Int) : plcL (b :: p) n = b :: plcL p n := by
  unfold plcL
  split <;> rfl
theorem vaL_cons (b : UInt8) (p : List UInt8) (th : Bool) (s : List UInt8) : vaL (b :: p) th s = b :: vaL p th s := rfl
theorem numL_cons (b : UInt8) (p : List UInt8) (n : Int) : numL (b :: p) n = b :: numL p n := rfl
theorem bt_bts (l : List UInt8) : bt (bts l) = l := rfl
theorem bts_bt (s : ByteArray) : bts (bt s) = s := rfl
/-- A violation's line and what stands behind it, field by field. -/
def vioM (x : Vi.Vl) (r : List UInt8) : List UInt8 := vWord x.kd ++ 32 :: (numL [116, 105, 109, 101, 32] x.tm ++ 32 :: (numL [116, 120, 110, 32] x.tx ++ 32 :: (plcL [111, 112, 32] x.op ++ 32 :: (plcL [119, 105, 116, 110, 101, 115, 115, 32] x.wi ++ 32 :: (([107, 101, 121, 32] ++ wd (bt x.key)) ++ 32 :: (vaL [119, 97, 110, 116, 32] x.wa (bt x.ex) ++ 32 :: (vaL [103, 111, 116, 32] x.go (bt x.ob) ++ 32 :: (numL [102, 114, 111, 109, 32] x.fr ++ 32 :: (numL [116, 111, 32] x.tt ++ 10 :: r)))))))))
theorem vioL_eq (x : Vi.Vl) (r : List UInt8) : vioL x ++ r = vioM x r := by
  have e : vaL [107, 101, 121, 32] true (bt x.key) = [107, 101, 121, 32] ++ wd (bt x.key) := by
    unfold vaL
    rw [if_pos rfl]
  unfold vioL vioM
  rw [← e]
  simp only [plcL_cons, vaL_cons, numL_cons, List.append_assoc, List.cons_append, List.nil_append]
theorem vWords_at {i : Nat} (h : i < 10) : ∃ v, vWords[i]? = some v ∧ vWord ((i + 1 : Nat) : Int) = v ∧ v.all (fun b => b != 32) = true := by
  match i, h with
  | 0, _ => exact ⟨_, rfl, rfl, by decide⟩
  | 1, _ => exact ⟨_, rfl, rfl, by decide⟩
  | 2, _ => exact ⟨_, rfl, rfl, by decide⟩
  | 3, _ => exact ⟨_, rfl, rfl, by decide⟩
  | 4, _ => exact ⟨_, rfl, rfl, by decide⟩
  | 5, _ => exact ⟨_, rfl, rfl, by decide⟩
  | 6, _ => exact ⟨_, rfl, rfl, by decide⟩
  | 7, _ => exact ⟨_, rfl, rfl, by decide⟩
  | 8, _ => exact ⟨_, rfl, rfl, by decide⟩
  | 9, _ => exact ⟨_, rfl, rfl, by decide⟩
  | n + 10, h => omega
theorem words_ne {ws : List (List UInt8)} (hn : ws.Nodup) {i : Nat} {v : List UInt8} (hv : ws[i]? = some v) : ∀ j, j < i → ∀ x, ws[j]? = some x → x ≠ v := by
  intro j hj x hx e
  subst e
  have hi := (List.getElem?_eq_some_iff.1 hv).1
  have hjl := (List.getElem?_eq_some_iff.1 hx).1
  have := List.pairwise_iff_getElem.1 hn j i hjl hi hj
  rw [List.getElem?_eq_getElem hjl, Option.some.injEq] at hx
  rw [List.getElem?_eq_getElem hi, Option.some.injEq] at hv
  exact this (hx.trans hv.symm)
theorem vWords_nodup : vWords.Nodup := by decide
theorem vio_app {x : Vi.Vl} (hx : Vi.okV x = true) (r : List UInt8) : vioR ⟨vioL x ++ r, false⟩ = x ∧ vsA ⟨vioL x ++ r, false⟩ = ⟨r, false⟩ := by
  obtain ⟨h0, h1, h2, h3, h4, h5, h6, h7, h8, h9⟩ := Vi.okV_iff x |>.1 hx
  rw [vioL_eq]
  obtain ⟨kd, tm, tx, op, wi, key, wa, ex, go, ob, fr, tt⟩ := x
  simp only at h0 h1 h2 h3 h4 h5 h6 h7 h8 h9
  obtain ⟨i, rfl⟩ : ∃ i : Nat, kd = ((i + 1 : Nat) : Int) := ⟨(kd - 1).toNat, by omega⟩
  obtain ⟨tm, rfl⟩ := Int.eq_ofNat_of_zero_le h1.1
  obtain ⟨tx, rfl⟩ := Int.eq_ofNat_of_zero_le h4.1
  obtain ⟨fr, rfl⟩ := Int.eq_ofNat_of_zero_le h2.1
  obtain ⟨tt, rfl⟩ := Int.eq_ofNat_of_zero_le h3.1
  obtain ⟨v, w1, w2, w3⟩ := vWords_at (i := i) (by omega)
  have hex : wa = true ∨ bt ex = [] := h8.2.imp_right fun e => List.eq_nil_of_length_eq_zero (by rw [bt_len]; exact e)
  have hob : go = true ∨ bt ob = [] := h9.2.imp_right fun e => List.eq_nil_of_length_eq_zero (by rw [bt_len]; exact e)
  unfold vioM
  dsimp only
  rw [w2]
  generalize hr9 : numL [116, 111, 32] (tt : Int) ++ 10 :: r = r9
  generalize hr8 : numL [102, 114, 111, 109, 32] (fr : Int) ++ 32 :: r9 = r8
  generalize hr7 : vaL [103, 111, 116, 32] go (bt ob) ++ 32 :: r8 = r7
  generalize hr6 : vaL [119, 97, 110, 116, 32] wa (bt ex) ++ 32 :: r7 = r6
  generalize hr5 : ([107, 101, 121, 32] ++ wd (bt key)) ++ 32 :: r6 = r5
  generalize hr4 : plcL [119, 105, 116, 110, 101, 115, 115, 32] wi ++ 32 :: r5 = r4
  generalize hr3 : plcL [111, 112, 32] op ++ 32 :: r4 = r3
  generalize hr2 : numL [116, 120, 110, 32] (tx : Int) ++ 32 :: r3 = r2
  generalize hr1 : numL [116, 105, 109, 101, 32] (tm : Int) ++ 32 :: r2 = r1
  obtain ⟨a0, b0⟩ := kd_app (words_ne vWords_nodup w1) w1 w3 r1
  obtain ⟨a1, b1⟩ := nuR_app (n := tm) (by omega) [116, 105, 109, 101, 32] (c := 32) (by decide) r2
  obtain ⟨a2, b2⟩ := nuR_app (n := tx) (by omega) [116, 120, 110, 32] (c := 32) (by decide) r3
  obtain ⟨a3, b3⟩ := pl_app (n := op) (by omega) (by omega) [111, 112, 32] r4
  obtain ⟨a4, b4⟩ := pl_app (n := wi) (by omega) (by omega) [119, 105, 116, 110, 101, 115, 115, 32] r5
  obtain ⟨a5, b5⟩ := wo_app (bt key) [107, 101, 121, 32] r6
  obtain ⟨a6, c6, b6⟩ := va_app hex [119, 97, 110, 116, 32] r7
  obtain ⟨a7, c7, b7⟩ := va_app hob [103, 111, 116, 32] r8
  obtain ⟨a8, b8⟩ := nuR_app (n := fr) (by omega) [102, 114, 111, 109, 32] (c := 32) (by decide) r9
  obtain ⟨a9, b9⟩ := nuR_app (n := tt) (by omega) [116, 111, 32] (c := 10) (by decide) r
  rw [hr1] at a1 b1
  rw [hr2] at a2 b2
  rw [hr3] at a3 b3
  rw [hr4] at a4 b4
  rw [hr5] at a5 b5
  rw [hr6] at a6 c6 b6
  rw [hr7] at a7 c7 b7
  rw [hr8] at a8 b8
  rw [hr9] at a9 b9
  have e1 : vs1 ⟨v ++ 32 :: r1, false⟩ = ⟨r1, false⟩ := b0
  generalize hs : (⟨v ++ 32 :: r1, false⟩ : Rs) = s at *
  have e2 : vs2 s = ⟨r2, false⟩ := by unfold vs2; rw [e1]; exact b1
  have e3 : vs3 s = ⟨r3, false⟩ := by unfold vs3; rw [e2]; exact b2
  have e4 : vs4 s = ⟨r4, false⟩ := by unfold vs4; rw [e3]; exact b3
  have e5 : vs5 s = ⟨r5, false⟩ := by unfold vs5; rw [e4]; exact b4
  have e6 : vs6 s = ⟨r6, false⟩ := by unfold vs6; rw [e5]; exact b5
  have e7 : vs7 s = ⟨r7, false⟩ := by unfold vs7; rw [e6]; exact b6
  have e8 : vs8 s = ⟨r8, false⟩ := by unfold vs8; rw [e7]; exact b7
  have e9 : vs9 s = ⟨r9, false⟩ := by unfold vs9; rw [e8]; exact b8
  refine ⟨?_, by unfold vsA; rw [e9]; exact b9⟩
  unfold vioR
  rw [e1, e2, e3, e4, e5, e6, e7, e8, e9, a0, a1, a2, a3, a4, a5, a6, c6, a7, c7, a8, a9, bts_bt, bts_bt, bts_bt]
theorem vio_inv {s : Rs} (h : (vsA s).f = false) : s.f = false ∧ s.l = vioL (vioR s) ++ (vsA s).l := by
  obtain ⟨g9, _, t9⟩ := nu_inv (s := vs9 s) h
  obtain ⟨g8, _, t8⟩ := nu_inv (s := vs8 s) g9
  obtain ⟨g7, _, t7⟩ := va_inv (s := vs7 s) g8
  obtain ⟨g6, _, t6⟩ := va_inv (s := vs6 s) g7
  obtain ⟨g5, t5⟩ := wo_inv (s := vs5 s) g6
  obtain ⟨g4, _, t4⟩ := pl_inv (s := vs4 s) g5
  obtain ⟨g3, _, t3⟩ := pl_inv (s := vs3 s) g4
  obtain ⟨g2, _, t2⟩ := nu_inv (s := vs2 s) g3
  obtain ⟨g1, _, t1⟩ := nu_inv (s := vs1 s) g2
  obtain ⟨g0, i, v, k1, k2, t0⟩ := kd_inv (s := s) g1
  refine ⟨g0, ?_⟩
  have hi : i < 10 := (List.getElem?_eq_some_iff.1 k2).1
  obtain ⟨v', w1, w2, _⟩ := vWords_at hi
  obtain rfl : v' = v := Option.some.inj (w1.symm.trans k2)
  clear g0 g1 g2 g3 g4 g5 g6 g7 g8 g9 h k2 w1 hi
  have q0 : s.l = v' ++ 32 :: (vs1 s).l := t0
  have q1 : (vs1 s).l = numL [116, 105, 109, 101, 32] ((nuN [116, 105, 109, 101, 32] 32 (vs1 s) : Nat) : Int) ++ 32 :: (vs2 s).l := t1
  have q2 : (vs2 s).l = numL [116, 120, 110, 32] ((nuN [116, 120, 110, 32] 32 (vs2 s) : Nat) : Int) ++ 32 :: (vs3 s).l := t2
  have q3 : (vs3 s).l = plcL [111, 112, 32] (plN [111, 112, 32] (vs3 s)) ++ 32 :: (vs4 s).l := t3
  have q4 : (vs4 s).l = plcL [119, 105, 116, 110, 101, 115, 115, 32] (plN [119, 105, 116, 110, 101, 115, 115, 32] (vs4 s)) ++ 32 :: (vs5 s).l := t4
  have q5 : (vs5 s).l = ([107, 101, 121, 32] ++ wd (woN [107, 101, 121, 32] (vs5 s))) ++ 32 :: (vs6 s).l := t5
  have q6 : (vs6 s).l = vaL [119, 97, 110, 116, 32] (vaB [119, 97, 110, 116, 32] (vs6 s)) (vaN [119, 97, 110, 116, 32] (vs6 s)) ++ 32 :: (vs7 s).l := t6
  have q7 : (vs7 s).l = vaL [103, 111, 116, 32] (vaB [103, 111, 116, 32] (vs7 s)) (vaN [103, 111, 116, 32] (vs7 s)) ++ 32 :: (vs8 s).l := t7
  have q8 : (vs8 s).l = numL [102, 114, 111, 109, 32] ((nuN [102, 114, 111, 109, 32] 32 (vs8 s) : Nat) : Int) ++ 32 :: (vs9 s).l := t8
  have q9 : (vs9 s).l = numL [116, 111, 32] ((nuN [116, 111, 32] 10 (vs9 s) : Nat) : Int) ++ 10 :: (vsA s).l := t9
  clear t0 t1 t2 t3 t4 t5 t6 t7 t8 t9
  rw [vioL_eq]
  unfold vioM vioR
  dsimp only
  rw [k1, w2, bt_bts, bt_bts, bt_bts, ← q9, ← q8, ← q7, ← q6, ← q5, ← q4, ← q3, ← q2, ← q1]
  exact q0
theorem vsR_app : ∀ (ls : List Vi.Vl) (n m : Nat) (acc : List Vi.Vl) (r : List UInt8), (∀ x ∈ ls, Vi.okV x = true) → ls.length ≤ n → acc.length + ls.length = m → vsR n m acc ⟨ls.flatMap vioL ++ r, false⟩ = (acc ++ ls, ⟨r, false⟩)
  | [], n, m, acc, r, _, _, hm => by
    rw [vsR_stop (fun h => by have := h.1; simp at hm; omega), List.append_nil]
    rfl
  | x :: ls, 0, m, acc, r, _, hn, _ => by simp at hn
  | x :: ls, n + 1, m, acc, r, hx, hn, hm => by
    have hm' : acc.length + (ls.length + 1) = m := hm
    have hn' : ls.length + 1 ≤ n + 1 := hn
    rw [vsR_go ⟨by omega, rfl⟩, List.flatMap_cons, List.append_assoc]
    obtain ⟨a, b⟩ := vio_app (hx x List.mem_cons_self) (ls.flatMap vioL ++ r)
    rw [a, b, vsR_app ls n m (acc ++ [x]) r (fun y hy => hx y (List.mem_cons_of_mem _ hy)) (by omega) (by rw [List.length_append, List.length_singleton]; omega), List.append_assoc]
    rfl
theorem vsR_inv : ∀ (n m : Nat) (acc : List Vi.Vl) (s : Rs), acc.length ≤ m → m ≤ acc.length + n → (vsR n m acc s).2.f = false → s.f = false ∧ ∃ ls, (vsR n m acc s).1 = acc ++ ls ∧ acc.length + ls.length = m ∧ s.l = ls.flatMap vioL ++ (vsR n m acc s).2.l
  | 0, m, acc, s, h1, h2, h => ⟨h, [], (List.append_nil _).symm, by simp; omega, rfl⟩
  | n + 1, m, acc, s, h1, h2, h => by
    by_cases c : acc.length < m ∧ s.f = false
    · rw [vsR_go c] at h ⊢
      obtain ⟨g1, ls, g2, g3, g4⟩ := vsR_inv n m (acc ++ [vioR s]) (vsA s) (by rw [List.length_append, List.length_singleton]; omega) (by rw [List.length_append, List.length_singleton]; omega) h
      obtain ⟨i1, i2⟩ := vio_inv g1
      refine ⟨i1, vioR s :: ls, by rw [g2, List.append_assoc]; rfl, by rw [List.length_append, List.length_singleton] at g3; rw [List.length_cons]; omega, ?_⟩
      rw [List.flatMap_cons, List.append_assoc, ← g4]
      exact i2
    · rw [vsR_stop c] at h ⊢
      have hf : s.f = false := h
      exact ⟨hf, [], (List.append_nil _).symm, by have : ¬ acc.length < m := fun x => c ⟨x, hf⟩; simp; omega, rfl⟩
end Go.Proofs.YtfhaiklfbnfdlaaDoor

namespace Go.Proofs.YtfhaiklfbnfdlaaDoor
open Go.RowKit

theorem okO_no {o : OuM} (h : okO o = true) : (hc o.kd = false → o.cd = 0) ∧ (ho o.kd = false → o.of = 0) ∧ (ht o.kd = false → o.tn = 0) ∧ (hl o.kd = false → o.tt = 0 ∧ o.ls = []) := by
  have hz : ∀ {th : Bool} {n a b : Int}, fit th n a b = true → th = false → n = 0 := fun {th n a b} h e => by
    subst e
    unfold fit at h
    rw [if_neg (by decide)] at h
    exact eq_of_beq h
  unfold okO at h
  simp only [Bool.and_eq_true, Vi.wi_iff, decide_eq_true_eq] at h
  obtain ⟨⟨⟨⟨⟨⟨h0, h1⟩, h2⟩, h3⟩, h4⟩, h5⟩, h6, h7⟩ := h
  exact ⟨hz h1, hz h2, hz h3, fun e => ⟨hz h4 e, List.eq_nil_of_length_eq_zero (by have := hz h4 e; omega)⟩⟩
def oA5 (o : OuM) (r : List UInt8) : List UInt8 := o.ls.flatMap vioL ++ (footB ++ r)
def oA4 (o : OuM) (r : List UInt8) : List UInt8 := if hl o.kd = true then numL [116, 111, 116, 97, 108, 32] o.tt ++ 10 :: (numL [115, 104, 111, 119, 110, 32] (o.ls.length : Int) ++ 10 :: oA5 o r) else oA5 o r
def oA3 (o : OuM) (r : List UInt8) : List UInt8 := if ht o.kd = true then numL [116, 120, 110, 115, 32] o.tn ++ 10 :: oA4 o r else oA4 o r
def oA2 (o : OuM) (r : List UInt8) : List UInt8 := if ho o.kd = true then numL [111, 102, 102, 115, 101, 116, 32] o.of ++ 10 :: oA3 o r else oA3 o r
def oA1 (o : OuM) (r : List UInt8) : List UInt8 := if hc o.kd = true then numL [99, 111, 100, 101, 32] o.cd ++ 10 :: oA2 o r else oA2 o r
theorem outL_eq (o : OuM) (r : List UInt8) : outL o ++ r = headB ++ (oWord o.kd ++ 10 :: oA1 o r) := by
  unfold outL frontL oA1 oA2 oA3 oA4 oA5
  generalize hc o.kd = b1
  generalize ho o.kd = b2
  generalize ht o.kd = b3
  generalize hl o.kd = b4
  cases b1 <;> cases b2 <;> cases b3 <;> cases b4 <;> simp
theorem oWords_at {i : Nat} (h : i < 9) : ∃ v, oWords[i]? = some v ∧ oWord ((i + 1 : Nat) : Int) = v ∧ v.all (fun b => b != 10) = true := by
  match i, h with
  | 0, _ => exact ⟨_, rfl, rfl, by decide⟩
  | 1, _ => exact ⟨_, rfl, rfl, by decide⟩
  | 2, _ => exact ⟨_, rfl, rfl, by decide⟩
  | 3, _ => exact ⟨_, rfl, rfl, by decide⟩
  | 4, _ => exact ⟨_, rfl, rfl, by decide⟩
  | 5, _ => exact ⟨_, rfl, rfl, by decide⟩
  | 6, _ => exact ⟨_, rfl, rfl, by decide⟩
  | 7, _ => exact ⟨_, rfl, rfl, by decide⟩
  | 8, _ => exact ⟨_, rfl, rfl, by decide⟩
  | n + 9, h => omega
theorem oWords_nodup : oWords.Nodup := by decide
/-- A field that is there or not, written. -/
theorem nu_if {b : Bool} {n : Int} (h0 : 0 ≤ n) (h1 : n < 1000000000000000) (hz : b = false → n = 0) (p r : List UInt8) : (((if b = true then nuN p 10 ⟨if b = true then numL p n ++ 10 :: r else r, false⟩ else 0 : Nat) : Int) = n) ∧ (if b = true then nuT p 10 ⟨if b = true then numL p n ++ 10 :: r else r, false⟩ else ⟨if b = true then numL p n ++ 10 :: r else r, false⟩) = ⟨r, false⟩ := by
  cases b with
  | false => exact ⟨(hz rfl).symm, rfl⟩
  | true =>
    obtain ⟨m, rfl⟩ := Int.eq_ofNat_of_zero_le h0
    obtain ⟨u1, u2⟩ := nuR_app (n := m) (by omega) p (c := 10) (by decide) r
    exact ⟨congrArg Nat.cast u1, u2⟩
theorem out_app {o : OuM} (h : okO o = true) (r : List UInt8) : ouR ⟨outL o ++ r, false⟩ = o ∧ ouT ⟨outL o ++ r, false⟩ = ⟨r, false⟩ := by
  obtain ⟨h0, h1, h2, h3, h4, h5, h6, h7, -⟩ := okO_iff h
  obtain ⟨z1, z2, z3, z4⟩ := okO_no h
  clear h
  obtain ⟨kd, cd, of, tn, tt, ls⟩ := o
  simp only at h0 h1 h2 h3 h4 h5 h6 h7 z1 z2 z3 z4
  obtain ⟨i, rfl⟩ : ∃ i : Nat, kd = ((i + 1 : Nat) : Int) := ⟨(kd - 1).toNat, by omega⟩
  obtain ⟨v, w1, w2, w3⟩ := oWords_at (i := i) (by omega)
  rw [outL_eq]
  dsimp only
  rw [w2]
  obtain ⟨a0, b0⟩ := kd_app (words_ne oWords_nodup w1) w1 w3 (oA1 ⟨((i + 1 : Nat) : Int), cd, of, tn, tt, ls⟩ r)
  have m0 : os0 ⟨headB ++ (v ++ 10 :: oA1 ⟨((i + 1 : Nat) : Int), cd, of, tn, tt, ls⟩ r), false⟩ = ⟨v ++ 10 :: oA1 ⟨((i + 1 : Nat) : Int), cd, of, tn, tt, ls⟩ r, false⟩ := mst_app _ _
  generalize (⟨headB ++ (v ++ 10 :: oA1 ⟨((i + 1 : Nat) : Int), cd, of, tn, tt, ls⟩ r), false⟩ : Rs) = s at *
  have k0 : okd s = i + 1 := by unfold okd; rw [m0]; exact a0
  have s1 : os1 s = ⟨oA1 ⟨((i + 1 : Nat) : Int), cd, of, tn, tt, ls⟩ r, false⟩ := by unfold os1; rw [m0]; exact b0
  clear a0 b0 m0
  obtain ⟨n2, t2⟩ := nu_if h1.1 (by omega) z1 [99, 111, 100, 101, 32] (oA2 ⟨((i + 1 : Nat) : Int), cd, of, tn, tt, ls⟩ r)
  obtain ⟨n3, t3⟩ := nu_if h2.1 (by omega) z2 [111, 102, 102, 115, 101, 116, 32] (oA3 ⟨((i + 1 : Nat) : Int), cd, of, tn, tt, ls⟩ r)
  obtain ⟨n4, t4⟩ := nu_if h3.1 (by omega) z3 [116, 120, 110, 115, 32] (oA4 ⟨((i + 1 : Nat) : Int), cd, of, tn, tt, ls⟩ r)
  have s2 : os2 s = ⟨oA2 ⟨((i + 1 : Nat) : Int), cd, of, tn, tt, ls⟩ r, false⟩ := by unfold os2; rw [k0, s1]; exact t2
  have s3 : os3 s = ⟨oA3 ⟨((i + 1 : Nat) : Int), cd, of, tn, tt, ls⟩ r, false⟩ := by unfold os3; rw [k0, s2]; exact t3
  have s4 : os4 s = ⟨oA4 ⟨((i + 1 : Nat) : Int), cd, of, tn, tt, ls⟩ r, false⟩ := by unfold os4; rw [k0, s3]; exact t4
  have q2 : ((ocd s : Nat) : Int) = cd := by unfold ocd; rw [k0, s1]; exact n2
  have q3 : ((oof s : Nat) : Int) = of := by unfold oof; rw [k0, s2]; exact n3
  have q4 : ((otn s : Nat) : Int) = tn := by unfold otn; rw [k0, s3]; exact n4
  clear n2 n3 n4 t2 t3 t4 s1 s2 s3
  cases hb : hl ((i + 1 : Nat) : Int) with
  | false =>
    obtain ⟨rfl, rfl⟩ := z4 hb
    have e4 : oA4 ⟨((i + 1 : Nat) : Int), cd, of, tn, 0, []⟩ r = footB ++ r := by
      unfold oA4 oA5
      rw [if_neg (by rw [hb]; decide)]
      rfl
    have q5 : ott s = 0 := by unfold ott; rw [k0, if_neg (by rw [hb]; decide)]
    have q6 : olv s = [] := by unfold olv; rw [k0, if_neg (by rw [hb]; decide)]
    have s7 : os7 s = ⟨footB ++ r, false⟩ := by unfold os7; rw [k0, if_neg (by rw [hb]; decide), s4, e4]
    unfold ouR ouT
    rw [k0, q2, q3, q4, q5, q6, s7]
    exact ⟨rfl, mst_app footB r⟩
  | true =>
    obtain ⟨tt, rfl⟩ := Int.eq_ofNat_of_zero_le h4.1
    have e4 : oA4 ⟨((i + 1 : Nat) : Int), cd, of, tn, tt, ls⟩ r = numL [116, 111, 116, 97, 108, 32] (tt : Int) ++ 10 :: (numL [115, 104, 111, 119, 110, 32] (ls.length : Int) ++ 10 :: (ls.flatMap vioL ++ (footB ++ r))) := by
      unfold oA4 oA5
      rw [if_pos hb]
    rw [e4] at s4
    obtain ⟨u1, u2⟩ := nuR_app (n := tt) (by omega) [116, 111, 116, 97, 108, 32] (c := 10) (by decide) (numL [115, 104, 111, 119, 110, 32] (ls.length : Int) ++ 10 :: (ls.flatMap vioL ++ (footB ++ r)))
    obtain ⟨u3, u4⟩ := nuR_app (n := ls.length) (by omega) [115, 104, 111, 119, 110, 32] (c := 10) (by decide) (ls.flatMap vioL ++ (footB ++ r))
    have s5 : os5 s = ⟨numL [115, 104, 111, 119, 110, 32] (ls.length : Int) ++ 10 :: (ls.flatMap vioL ++ (footB ++ r)), false⟩ := by unfold os5; rw [s4]; exact u2
    have s6 : os6 s = ⟨ls.flatMap vioL ++ (footB ++ r), false⟩ := by unfold os6; rw [s5]; exact u4
    have q5 : ott s = tt := by unfold ott; rw [k0, if_pos hb, s4]; exact u1
    have q6 : osh s = ls.length := by unfold osh; rw [s5]; exact u3
    have q7 : oli s = (ls, ⟨footB ++ r, false⟩) := by
      unfold oli
      have e : vsS ls.length ⟨ls.flatMap vioL ++ (footB ++ r), false⟩ = ⟨ls.flatMap vioL ++ (footB ++ r), false⟩ := if_neg (by omega)
      rw [q6, s6, e, vsR_app ls ls.length ls.length [] (footB ++ r) h7 (Nat.le_refl _) (by simp)]
      rfl
    have q8 : olv s = ls := by unfold olv; rw [k0, if_pos hb, q7]
    have s7 : os7 s = ⟨footB ++ r, false⟩ := by unfold os7; rw [k0, if_pos hb, q7]
    unfold ouR ouT
    rw [k0, q2, q3, q4, q5, q8, s7]
    exact ⟨rfl, mst_app footB r⟩
theorem prs_app {o : OuM} (h : okO o = true) : prsT (outL o) = (o, 0) := by
  obtain ⟨e1, e2⟩ := out_app h []
  rw [List.append_nil] at e1 e2
  unfold prsT
  rw [e1, e2, if_neg (show ¬ false = true by decide), if_neg (by simp), if_pos h]
/-- A field that is there or not, read. -/
theorem nu_if_inv {b : Bool} {p : List UInt8} {s : Rs} (h : (if b = true then nuT p 10 s else s).f = false) : s.f = false ∧ s.l = if b = true then numL p ((if b = true then nuN p 10 s else 0 : Nat) : Int) ++ 10 :: (if b = true then nuT p 10 s else s).l else (if b = true then nuT p 10 s else s).l := by
  cases b with
  | false => exact ⟨h, rfl⟩
  | true =>
    obtain ⟨g1, _, g3⟩ := nu_inv (show (nuT p 10 s).f = false from h)
    exact ⟨g1, g3⟩
theorem out_inv {l : List UInt8} (h : (ouT ⟨l, false⟩).f = false) (h2 : (ouT ⟨l, false⟩).l = []) : outL (ouR ⟨l, false⟩) = l := by
  have hl : (⟨l, false⟩ : Rs).l = l := rfl
  rw [← hl]
  clear hl
  generalize (⟨l, false⟩ : Rs) = s at *
  obtain ⟨g7, t7⟩ := mst_inv (s := os7 s) h
  have e7 : (mst footB (os7 s)).l = [] := h2
  rw [e7] at t7
  have q5 : (os4 s).f = false ∧ (os4 s).l = oA4 (ouR s) [] := by
    unfold os7 at g7 t7
    unfold oA4 oA5
    have ek : (ouR s).kd = ((okd s : Nat) : Int) := rfl
    have el : (ouR s).ls = olv s := rfl
    have et : (ouR s).tt = ((ott s : Nat) : Int) := rfl
    rw [ek, el, et]
    unfold olv ott
    by_cases hb : hl (okd s) = true
    · rw [if_pos hb] at g7 t7
      rw [if_pos hb, if_pos hb, if_pos hb]
      unfold oli at g7 t7 ⊢
      have hsm : ¬ 10000 < osh s := fun hbig => by
        have e : vsS (osh s) (os6 s) = ⟨(os6 s).l, true⟩ := if_pos hbig
        rw [e, vsR_stop (by simp)] at g7
        cases g7
      have e : vsS (osh s) (os6 s) = os6 s := if_neg hsm
      rw [e] at g7 t7 ⊢
      obtain ⟨i1, ls, i2, i3, i4⟩ := vsR_inv (osh s) (osh s) [] (os6 s) (Nat.zero_le _) (by simp) g7
      rw [List.nil_append] at i2
      rw [i2]
      have i3' : ls.length = osh s := by simpa using i3
      obtain ⟨j1, _, j3⟩ := nu_inv (s := os5 s) i1
      obtain ⟨k1, _, k3⟩ := nu_inv (s := os4 s) j1
      have j3' : (os5 s).l = numL [115, 104, 111, 119, 110, 32] ((osh s : Nat) : Int) ++ 10 :: (os6 s).l := j3
      have k3' : (os4 s).l = numL [116, 111, 116, 97, 108, 32] ((nuN [116, 111, 116, 97, 108, 32] 10 (os4 s) : Nat) : Int) ++ 10 :: (os5 s).l := k3
      refine ⟨k1, ?_⟩
      rw [i3', ← t7, ← i4, ← j3']
      exact k3'
    · rw [if_neg hb] at g7 t7
      rw [if_neg hb, if_neg hb]
      refine ⟨g7, ?_⟩
      rw [t7]
      rfl
  obtain ⟨g4, t4⟩ := q5
  obtain ⟨g3, t3⟩ := nu_if_inv (b := ht (okd s)) (s := os3 s) g4
  obtain ⟨g2, t2⟩ := nu_if_inv (b := ho (okd s)) (s := os2 s) g3
  obtain ⟨g1, t1⟩ := nu_if_inv (b := hc (okd s)) (s := os1 s) g2
  obtain ⟨g0, i, v, k1, k2, t0⟩ := kd_inv (s := os0 s) g1
  obtain ⟨_, th⟩ := mst_inv (s := s) g0
  have p3 : (os3 s).l = oA3 (ouR s) [] := by
    unfold oA3
    rw [← t4]
    exact t3
  have p2 : (os2 s).l = oA2 (ouR s) [] := by
    unfold oA2
    rw [← p3]
    exact t2
  have p1 : (os1 s).l = oA1 (ouR s) [] := by
    unfold oA1
    rw [← p2]
    exact t1
  have hi : i < 9 := (List.getElem?_eq_some_iff.1 k2).1
  obtain ⟨v', w1, w2, _⟩ := oWords_at hi
  obtain rfl : v' = v := Option.some.inj (w1.symm.trans k2)
  have ek : (ouR s).kd = ((i + 1 : Nat) : Int) := by show ((okd s : Nat) : Int) = _; unfold okd; rw [k1]
  have t0' : (os0 s).l = v' ++ 10 :: (os1 s).l := t0
  have th' : s.l = headB ++ (os0 s).l := th
  rw [← List.append_nil (outL (ouR s)), outL_eq, ek, w2, ← p1, ← t0', ← th']
theorem prs_inv {l : List UInt8} (h : (prsT l).2 = 0) : okO (prsT l).1 = true ∧ outL (prsT l).1 = l := by
  unfold prsT at h ⊢
  by_cases c1 : (ouT ⟨l, false⟩).f = true
  · rw [if_pos c1] at h
    cases h
  · rw [if_neg c1] at h ⊢
    by_cases c2 : (ouT ⟨l, false⟩).l ≠ []
    · rw [if_pos c2] at h
      cases h
    · rw [if_neg c2] at h ⊢
      by_cases c3 : okO (ouR ⟨l, false⟩) = true
      · rw [if_pos c3]
        exact ⟨c3, out_inv (by simpa using c1) (by simpa using c2)⟩
      · rw [if_neg c3] at h
        cases h
theorem prs_no {l : List UInt8} (h : (prsT l).2 ≠ 0) : prsT l = (ou00, 220) := by
  unfold prsT at h ⊢
  by_cases c1 : (ouT ⟨l, false⟩).f = true
  · rw [if_pos c1]
  · rw [if_neg c1] at h ⊢
    by_cases c2 : (ouT ⟨l, false⟩).l ≠ []
    · rw [if_pos c2]
    · rw [if_neg c2] at h ⊢
      by_cases c3 : okO (ouR ⟨l, false⟩) = true
      · rw [if_pos c3] at h
        exact absurd rfl h
      · rw [if_neg c3]
theorem prs_more {o : OuM} (h : okO o = true) {r : List UInt8} (hr : r ≠ []) : prsT (outL o ++ r) = (ou00, 220) := by
  obtain ⟨e1, e2⟩ := out_app h r
  unfold prsT
  rw [e1, e2, if_neg (show ¬ false = true by decide), if_pos hr]
/-- A text that is read, cut short, is none. -/
theorem prs_cut {o : OuM} (h : okO o = true) {k : Nat} (hk : k < (outL o).length) : prsT ((outL o).take k) = (ou00, 220) := by
  by_cases e : (prsT ((outL o).take k)).2 = 0
  · obtain ⟨h1, h2⟩ := prs_inv e
    have h3 : outL o = outL (prsT ((outL o).take k)).1 ++ (outL o).drop k := by
      rw [h2, List.take_append_drop]
    have h4 := prs_more h1 (r := (outL o).drop k) (fun e => by have := congrArg List.length e; rw [List.length_drop] at this; simp at this; omega)
    rw [← h3, prs_app h] at h4
    have h5 : (0 : Int) = 220 := congrArg Prod.snd h4
    exact absurd h5 (by decide)
  · exact prs_no e
end Go.Proofs.YtfhaiklfbnfdlaaDoor
