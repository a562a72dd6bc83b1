/- What is proved: the document's reader and Parse, plain and in memory: it answers what the code's Parse answers; the law ReportParses; conditions: the text's length, that the tables lie as their texts lay them -/
import Derived.Test.YtfhaiklfbnfdlaaDoorRoT
import Derived.Test.YtfhaiklfbnfdlaaDoorRpC
import Derived.Test.YtfhaiklfbnfdlaaDoorNoUp
import Derived.BigQuiet
import Derived.Test.YtfhaiklfbnfdlaaDoorRpB
import Derived.Test.YtfhaiklfbnfdlaaDoorRpF
import Derived.Test.YtfhaiklfbnfdlaaDoorRoO
import Derived.Deep.DeepCutAuto
import Derived.Test.YtfhaiklfbnfdlaaDoorRoX
namespace Go.Proofs.YtfhaiklfbnfdlaaDoor
open Go.RowKit

/-- The text must go on so. -/
def qm (p : List UInt8) (s : Rs) : Rs := if s.f = true then s else mst p s
theorem qm_bad {p : List UInt8} {s : Rs} (h : s.f = true) : qm p s = s := if_pos h
theorem qm_app (p r : List UInt8) : qm p ⟨p ++ r, false⟩ = ⟨r, false⟩ := mst_app p r
theorem qm_inv {p : List UInt8} {s : Rs} (h : (qm p s).f = false) : s.f = false ∧ s.l = p ++ (qm p s).l := by
  unfold qm at h ⊢
  by_cases hf : s.f = true
  · rw [if_pos hf] at h
    rw [hf] at h
    cases h
  · rw [if_neg hf] at h ⊢
    exact mst_inv h
/-- The piece up to a blank or a line's end. -/
def pcB (b : UInt8) : Bool := b != 32 && b != 10
def qpV (s : Rs) : List UInt8 := s.l.take (lead pcB s.l)
def qpS (s : Rs) : Rs := ⟨s.l.drop (lead pcB s.l), s.f⟩
theorem qp_app {v r : List UInt8} (h : v.all pcB = true) (hr : Halt pcB r) (f : Bool) : qpV ⟨v ++ r, f⟩ = v ∧ qpS ⟨v ++ r, f⟩ = ⟨r, f⟩ := by
  have e := lead_stop h hr
  unfold qpV qpS
  dsimp only
  rw [e, List.take_left' rfl, List.drop_left' rfl]
  exact ⟨rfl, rfl⟩
theorem qp_inv (s : Rs) : s.l = qpV s ++ (qpS s).l := (List.take_append_drop _ _).symm
theorem all_pc {f : UInt8 → Bool} (h1 : f 32 = false) (h2 : f 10 = false) {l : List UInt8} (h : l.all f = true) : l.all pcB = true := by
  rw [List.all_eq_true] at h ⊢
  intro b hb
  have := h b hb
  unfold pcB
  rw [Bool.and_eq_true, bne_iff_ne, bne_iff_ne]
  exact ⟨fun e => absurd this (by rw [e, h1]; decide), fun e => absurd this (by rw [e, h2]; decide)⟩
/-- Is the piece the dash? -/
def qD (d : Bool) (p : List UInt8) (s : Rs) : Bool := d && (qpV (qm p s) == [45])
def qnN (d : Bool) (p : List UInt8) (s : Rs) : Int := if (qm p s).f = true then 0 else if qD d p s = true then -1 else ((numb (qpV (qm p s))).getD 0 : Nat)
def qnT (d : Bool) (p : List UInt8) (s : Rs) : Rs := if (qm p s).f = true then qm p s else if qD d p s = true then qpS (qm p s) else bad (numb (qpV (qm p s))).isNone (qpS (qm p s))
theorem qnN_nat (p : List UInt8) (s : Rs) : ∃ n : Nat, qnN false p s = n ∧ n ≤ 999999999999999 := by
  unfold qnN qD
  by_cases h : (qm p s).f = true
  · exact ⟨0, by rw [if_pos h]; rfl, by decide⟩
  · exact ⟨_, by rw [if_neg h, if_neg (by simp)], numb_lt⟩
theorem dec_dash (n : Nat) : ¬ Lib.decDigits n = [45] := fun e => by
  have h := dec_dg n
  rw [e] at h
  exact absurd h (by decide)
theorem qn_app (d : Bool) {n : Nat} (h : n < 1000000000000000) (p : List UInt8) {r : List UInt8} (hr : Halt pcB r) : qnN d p ⟨numL p n ++ r, false⟩ = n ∧ qnT d p ⟨numL p n ++ r, false⟩ = ⟨r, false⟩ := by
  have e : qm p ⟨numL p n ++ r, false⟩ = ⟨Lib.decDigits n ++ r, false⟩ := by
    unfold numL
    rw [itoa_nat, List.append_assoc]
    exact qm_app _ _
  obtain ⟨u1, u2⟩ := qp_app (all_pc (f := dg) (by decide) (by decide) (dec_dg n)) hr false
  have hd : qD d p ⟨numL p n ++ r, false⟩ = false := by
    unfold qD
    rw [e, u1]
    have : (Lib.decDigits n == [45]) = false := beq_eq_false_iff_ne.2 (dec_dash n)
    rw [this, Bool.and_false]
  unfold qnN qnT
  rw [hd, e, u1, u2, numb_dec h]
  exact ⟨rfl, rfl⟩
theorem qn_dash (p : List UInt8) {r : List UInt8} (hr : Halt pcB r) : qnN true p ⟨plcL p (-1) ++ r, false⟩ = -1 ∧ qnT true p ⟨plcL p (-1) ++ r, false⟩ = ⟨r, false⟩ := by
  have e : qm p ⟨plcL p (-1) ++ r, false⟩ = ⟨[45] ++ r, false⟩ := by
    unfold plcL
    rw [if_pos (by decide), List.append_assoc]
    exact qm_app _ _
  obtain ⟨u1, u2⟩ := qp_app (v := [45]) (by decide) hr false
  have hd : qD true p ⟨plcL p (-1) ++ r, false⟩ = true := by
    unfold qD
    rw [e, u1]
    rfl
  unfold qnN qnT
  rw [hd, e, u2]
  exact ⟨rfl, rfl⟩
theorem qp_num {n : Int} (h0 : -1 ≤ n) (h1 : n < 1000000000000000) (p : List UInt8) {r : List UInt8} (hr : Halt pcB r) : qnN true p ⟨plcL p n ++ r, false⟩ = n ∧ qnT true p ⟨plcL p n ++ r, false⟩ = ⟨r, false⟩ := by
  by_cases hn : n < 0
  · obtain rfl : n = -1 := by omega
    exact qn_dash p hr
  · obtain ⟨m, rfl⟩ : ∃ m : Nat, n = (m : Int) := ⟨n.toNat, by omega⟩
    have e : plcL p (m : Int) = numL p (m : Int) := if_neg hn
    rw [e]
    exact qn_app true (by omega) p hr
theorem qn_inv {d : Bool} {p : List UInt8} {s : Rs} (h : (qnT d p s).f = false) : s.f = false ∧ s.l = plcL p (qnN d p s) ++ (qnT d p s).l := by
  unfold qnT at h ⊢
  unfold qnN
  by_cases hf : (qm p s).f = true
  · rw [if_pos hf] at h
    rw [hf] at h
    cases h
  · rw [if_neg hf] at h ⊢
    rw [if_neg hf]
    obtain ⟨i1, i2⟩ := qm_inv (p := p) (s := s) (by simpa using hf)
    refine ⟨i1, ?_⟩
    have e := qp_inv (qm p s)
    by_cases hd : qD d p s = true
    · rw [if_pos hd] at h ⊢
      rw [if_pos hd]
      unfold qD at hd
      rw [Bool.and_eq_true] at hd
      have hv := eq_of_beq hd.2
      unfold plcL
      rw [if_pos (by decide), List.append_assoc, ← hv, ← e]
      exact i2
    · rw [if_neg hd] at h ⊢
      rw [if_neg hd]
      obtain ⟨h1, h2⟩ := bad_inv h
      cases ho : numb (qpV (qm p s)) with
      | none => rw [ho] at h2; cases h2
      | some n =>
        obtain ⟨j1, -⟩ := numb_inv ho
        have e2 : (bad (some n).isNone (qpS (qm p s))).l = (qpS (qm p s)).l := rfl
        rw [e2]
        unfold plcL numL
        rw [if_neg (by simp), show ((some n : Option Nat).getD 0) = n from rfl, itoa_nat, j1, List.append_assoc, ← e]
        exact i2
theorem qn_num {p : List UInt8} {s : Rs} (h : (qnT false p s).f = false) : s.f = false ∧ s.l = numL p (qnN false p s) ++ (qnT false p s).l := by
  obtain ⟨h1, h2⟩ := qn_inv h
  obtain ⟨n, e, -⟩ := qnN_nat p s
  refine ⟨h1, ?_⟩
  have e2 : plcL p (qnN false p s) = numL p (qnN false p s) := if_neg (by rw [e]; omega)
  rw [← e2]
  exact h2
def qwN (d : Bool) (p : List UInt8) (s : Rs) : List UInt8 := if (qm p s).f = true then [] else if qD d p s = true then [] else (uwd (qpV (qm p s))).getD []
def qwB (d : Bool) (p : List UInt8) (s : Rs) : Bool := if (qm p s).f = true then false else if qD d p s = true then false else (uwd (qpV (qm p s))).isSome
def qwT (d : Bool) (p : List UInt8) (s : Rs) : Rs := if (qm p s).f = true then qm p s else if qD d p s = true then qpS (qm p s) else bad (uwd (qpV (qm p s))).isNone (qpS (qm p s))
theorem qw_app (d : Bool) (v p : List UInt8) {r : List UInt8} (hr : Halt pcB r) : qwN d p ⟨(p ++ wd v) ++ r, false⟩ = v ∧ qwB d p ⟨(p ++ wd v) ++ r, false⟩ = true ∧ qwT d p ⟨(p ++ wd v) ++ r, false⟩ = ⟨r, false⟩ := by
  have e : qm p ⟨(p ++ wd v) ++ r, false⟩ = ⟨wd v ++ r, false⟩ := by
    rw [List.append_assoc]
    exact qm_app _ _
  obtain ⟨u1, u2⟩ := qp_app (all_pc (f := wch) (by decide) (by decide) (wd_wch v)) hr false
  have hd : qD d p ⟨(p ++ wd v) ++ r, false⟩ = false := by
    unfold qD
    rw [e, u1]
    have : (wd v == [45]) = false := beq_eq_false_iff_ne.2 (fun e => by
      have h := wd_wch v
      rw [e] at h
      exact absurd h (by decide))
    rw [this, Bool.and_false]
  unfold qwN qwB qwT
  rw [hd, e, u1, u2, uwd_wd]
  exact ⟨rfl, rfl, rfl⟩
theorem qw_val {th : Bool} {v : List UInt8} (h : th = true ∨ v = []) (p : List UInt8) {r : List UInt8} (hr : Halt pcB r) : qwN true p ⟨vaL p th v ++ r, false⟩ = v ∧ qwB true p ⟨vaL p th v ++ r, false⟩ = th ∧ qwT true p ⟨vaL p th v ++ r, false⟩ = ⟨r, false⟩ := by
  cases th with
  | true =>
    have e : vaL p true v = p ++ wd v := by
      unfold vaL
      rw [if_pos rfl]
    rw [e]
    exact qw_app true v p hr
  | false =>
    have hv : v = [] := h.resolve_left (by decide)
    subst hv
    have e : qm p ⟨vaL p false [] ++ r, false⟩ = ⟨[45] ++ r, false⟩ := by
      unfold vaL
      rw [if_neg (by decide), List.append_assoc]
      exact qm_app _ _
    obtain ⟨u1, u2⟩ := qp_app (v := [45]) (by decide) hr false
    have hd : qD true p ⟨vaL p false [] ++ r, false⟩ = true := by
      unfold qD
      rw [e, u1]
      rfl
    unfold qwN qwB qwT
    rw [hd, e, u2]
    exact ⟨rfl, rfl, rfl⟩
theorem qw_inv {d : Bool} {p : List UInt8} {s : Rs} (h : (qwT d p s).f = false) : s.f = false ∧ (d = false → qwB d p s = true) ∧ s.l = vaL p (qwB d p s) (qwN d p s) ++ (qwT d p s).l := by
  unfold qwT at h ⊢
  unfold qwN qwB
  by_cases hf : (qm p s).f = true
  · rw [if_pos hf] at h
    rw [hf] at h
    cases h
  · rw [if_neg hf] at h ⊢
    rw [if_neg hf, if_neg hf]
    obtain ⟨i1, i2⟩ := qm_inv (p := p) (s := s) (by simpa using hf)
    refine ⟨i1, ?_⟩
    have e := qp_inv (qm p s)
    by_cases hd : qD d p s = true
    · rw [if_pos hd] at h ⊢
      rw [if_pos hd, if_pos hd]
      unfold qD at hd
      rw [Bool.and_eq_true] at hd
      have hv := eq_of_beq hd.2
      refine ⟨fun e => by rw [e] at hd; exact absurd hd.1 (by decide), ?_⟩
      unfold vaL
      rw [if_neg (by decide), List.append_assoc, ← hv, ← e]
      exact i2
    · rw [if_neg hd] at h ⊢
      rw [if_neg hd, if_neg hd]
      obtain ⟨h1, h2⟩ := bad_inv h
      cases ho : uwd (qpV (qm p s)) with
      | none => rw [ho] at h2; cases h2
      | some v =>
        refine ⟨fun _ => rfl, ?_⟩
        have e2 : (bad (some v).isNone (qpS (qm p s))).l = (qpS (qm p s)).l := rfl
        rw [e2]
        unfold vaL
        rw [if_pos (by rfl), show ((some v : Option (List UInt8)).getD []) = v from rfl, wd_uwd ho, List.append_assoc, ← e]
        exact i2
/-- The number of the word of a list that stands next. -/
def qkN (ws : List (List UInt8)) (s : Rs) : Nat := if plc ws (qpV s) < ws.length then plc ws (qpV s) + 1 else 0
def qkT (ws : List (List UInt8)) (s : Rs) : Rs := if plc ws (qpV s) < ws.length then qpS s else ⟨(qpS s).l, true⟩
theorem qk_app {ws : List (List UInt8)} {v : List UInt8} {i : Nat} (h : ∀ j, j < i → ∀ x, ws[j]? = some x → x ≠ v) (hi : ws[i]? = some v) (hv : v.all pcB = true) {r : List UInt8} (hr : Halt pcB r) : qkN ws ⟨v ++ r, false⟩ = i + 1 ∧ qkT ws ⟨v ++ r, false⟩ = ⟨r, false⟩ := by
  obtain ⟨u1, u2⟩ := qp_app hv hr false
  have hp := plc_at h hi
  have hl := (List.getElem?_eq_some_iff.1 hi).1
  unfold qkN qkT
  rw [u1, u2, hp, if_pos hl, if_pos hl]
  exact ⟨rfl, rfl⟩
theorem qk_inv {ws : List (List UInt8)} {s : Rs} (h : (qkT ws s).f = false) : s.f = false ∧ ∃ i v, qkN ws s = i + 1 ∧ ws[i]? = some v ∧ s.l = v ++ (qkT ws s).l := by
  unfold qkT at h ⊢
  unfold qkN
  by_cases hl : plc ws (qpV s) < ws.length
  · rw [if_pos hl] at h ⊢
    rw [if_pos hl]
    refine ⟨h, plc ws (qpV s), qpV s, rfl, ?_, qp_inv s⟩
    have := List.findIdx_getElem (p := fun x => x == qpV s) (w := hl)
    rw [List.getElem?_eq_getElem hl]
    exact congrArg some (eq_of_beq this)
  · rw [if_neg hl] at h
    cases h
def qv1 (s : Rs) : Rs := qkT vWords s
def qv2 (s : Rs) : Rs := qnT false [32, 116, 105, 109, 101, 32] (qv1 s)
def qv3 (s : Rs) : Rs := qnT false [32, 116, 120, 110, 32] (qv2 s)
def qv4 (s : Rs) : Rs := qnT true [32, 111, 112, 32] (qv3 s)
def qv5 (s : Rs) : Rs := qnT true [32, 119, 105, 116, 110, 101, 115, 115, 32] (qv4 s)
def qv6 (s : Rs) : Rs := qwT false [32, 107, 101, 121, 32] (qv5 s)
def qv7 (s : Rs) : Rs := qwT true [32, 119, 97, 110, 116, 32] (qv6 s)
def qv8 (s : Rs) : Rs := qwT true [32, 103, 111, 116, 32] (qv7 s)
def qv9 (s : Rs) : Rs := qnT false [32, 102, 114, 111, 109, 32] (qv8 s)
def qvA (s : Rs) : Rs := qnT false [32, 116, 111, 32] (qv9 s)
def qvB (s : Rs) : Rs := qm [10] (qvA s)
/-- The violation that is read. -/
def qvR (s : Rs) : Vi.Vl := ⟨(qkN vWords s : Nat), qnN false [32, 116, 105, 109, 101, 32] (qv1 s), qnN false [32, 116, 120, 110, 32] (qv2 s), qnN true [32, 111, 112, 32] (qv3 s), qnN true [32, 119, 105, 116, 110, 101, 115, 115, 32] (qv4 s), bts (qwN false [32, 107, 101, 121, 32] (qv5 s)), qwB true [32, 119, 97, 110, 116, 32] (qv6 s), bts (qwN true [32, 119, 97, 110, 116, 32] (qv6 s)), qwB true [32, 103, 111, 116, 32] (qv7 s), bts (qwN true [32, 103, 111, 116, 32] (qv7 s)), qnN false [32, 102, 114, 111, 109, 32] (qv8 s), qnN false [32, 116, 111, 32] (qv9 s)⟩
/-- A violation's line and what stands behind it, piece by piece. -/
def vioQ (x : Vi.Vl) (r : List UInt8) : List UInt8 := vWord x.kd ++ (numL [32, 116, 105, 109, 101, 32] x.tm ++ (numL [32, 116, 120, 110, 32] x.tx ++ (plcL [32, 111, 112, 32] x.op ++ (plcL [32, 119, 105, 116, 110, 101, 115, 115, 32] x.wi ++ (vaL [32, 107, 101, 121, 32] true (bt x.key) ++ (vaL [32, 119, 97, 110, 116, 32] x.wa (bt x.ex) ++ (vaL [32, 103, 111, 116, 32] x.go (bt x.ob) ++ (numL [32, 102, 114, 111, 109, 32] x.fr ++ (numL [32, 116, 111, 32] x.tt ++ (10 :: r))))))))))
theorem vioQ_eq (x : Vi.Vl) (r : List UInt8) : vioL x ++ r = vioQ x r := by
  unfold vioL vioQ
  simp only [List.append_assoc, List.cons_append, List.nil_append]
theorem vWords_pc {i : Nat} (h : i < 10) : ∃ v, vWords[i]? = some v ∧ vWord ((i + 1 : Nat) : Int) = v ∧ v.all pcB = true := by
  match i, h with
  | 0, _ => exact ⟨_, rfl, rfl, by decide⟩
  | 1, _ => exact ⟨_, rfl, rfl, by decide⟩
  | 2, _ => exact ⟨_, rfl, rfl, by decide⟩
  | 3, _ => exact ⟨_, rfl, rfl, by decide⟩
  | 4, _ => exact ⟨_, rfl, rfl, by decide⟩
  | 5, _ => exact ⟨_, rfl, rfl, by decide⟩
  | 6, _ => exact ⟨_, rfl, rfl, by decide⟩
  | 7, _ => exact ⟨_, rfl, rfl, by decide⟩
  | 8, _ => exact ⟨_, rfl, rfl, by decide⟩
  | 9, _ => exact ⟨_, rfl, rfl, by decide⟩
  | n + 10, h => omega
theorem halt_num (b : UInt8) (hb : pcB b = false) (p : List UInt8) (n : Int) (r : List UInt8) : Halt pcB (numL (b :: p) n ++ r) := by
  rw [numL_cons]
  exact halt_cons hb _
theorem halt_plc (b : UInt8) (hb : pcB b = false) (p : List UInt8) (n : Int) (r : List UInt8) : Halt pcB (plcL (b :: p) n ++ r) := by
  rw [plcL_cons]
  exact halt_cons hb _
theorem halt_va (b : UInt8) (hb : pcB b = false) (p : List UInt8) (th : Bool) (v r : List UInt8) : Halt pcB (vaL (b :: p) th v ++ r) := by
  rw [vaL_cons]
  exact halt_cons hb _
theorem qv_app {x : Vi.Vl} (hx : Vi.okV x = true) (r : List UInt8) : qvR ⟨vioL x ++ r, false⟩ = x ∧ qvB ⟨vioL x ++ r, false⟩ = ⟨r, false⟩ := by
  obtain ⟨h0, h1, h2, h3, h4, h5, h6, h7, h8, h9⟩ := Vi.okV_iff x |>.1 hx
  rw [vioQ_eq]
  obtain ⟨kd, tm, tx, op, wi, key, wa, ex, go, ob, fr, tt⟩ := x
  simp only at h0 h1 h2 h3 h4 h5 h6 h7 h8 h9
  obtain ⟨i, rfl⟩ : ∃ i : Nat, kd = ((i + 1 : Nat) : Int) := ⟨(kd - 1).toNat, by omega⟩
  obtain ⟨tm, rfl⟩ := Int.eq_ofNat_of_zero_le h1.1
  obtain ⟨tx, rfl⟩ := Int.eq_ofNat_of_zero_le h4.1
  obtain ⟨fr, rfl⟩ := Int.eq_ofNat_of_zero_le h2.1
  obtain ⟨tt, rfl⟩ := Int.eq_ofNat_of_zero_le h3.1
  obtain ⟨v, w1, w2, w3⟩ := vWords_pc (i := i) (by omega)
  have hex : wa = true ∨ bt ex = [] := h8.2.imp_right fun e => List.eq_nil_of_length_eq_zero (by rw [bt_len]; exact e)
  have hob : go = true ∨ bt ob = [] := h9.2.imp_right fun e => List.eq_nil_of_length_eq_zero (by rw [bt_len]; exact e)
  unfold vioQ
  dsimp only
  rw [w2]
  have H9 : Halt pcB (10 :: r) := halt_cons (by decide) _
  have H8 : Halt pcB (numL [32, 116, 111, 32] (tt : Int) ++ 10 :: r) := halt_num _ (by decide) _ _ _
  generalize hr9 : numL [32, 116, 111, 32] (tt : Int) ++ 10 :: r = r9 at H8 ⊢
  have H7 : Halt pcB (numL [32, 102, 114, 111, 109, 32] (fr : Int) ++ r9) := halt_num _ (by decide) _ _ _
  generalize hr8 : numL [32, 102, 114, 111, 109, 32] (fr : Int) ++ r9 = r8 at H7 ⊢
  have H6 : Halt pcB (vaL [32, 103, 111, 116, 32] go (bt ob) ++ r8) := halt_va _ (by decide) _ _ _ _
  generalize hr7 : vaL [32, 103, 111, 116, 32] go (bt ob) ++ r8 = r7 at H6 ⊢
  have H5 : Halt pcB (vaL [32, 119, 97, 110, 116, 32] wa (bt ex) ++ r7) := halt_va _ (by decide) _ _ _ _
  generalize hr6 : vaL [32, 119, 97, 110, 116, 32] wa (bt ex) ++ r7 = r6 at H5 ⊢
  have H4 : Halt pcB (vaL [32, 107, 101, 121, 32] true (bt key) ++ r6) := halt_va _ (by decide) _ _ _ _
  generalize hr5 : vaL [32, 107, 101, 121, 32] true (bt key) ++ r6 = r5 at H4 ⊢
  have H3 : Halt pcB (plcL [32, 119, 105, 116, 110, 101, 115, 115, 32] wi ++ r5) := halt_plc _ (by decide) _ _ _
  generalize hr4 : plcL [32, 119, 105, 116, 110, 101, 115, 115, 32] wi ++ r5 = r4 at H3 ⊢
  have H2 : Halt pcB (plcL [32, 111, 112, 32] op ++ r4) := halt_plc _ (by decide) _ _ _
  generalize hr3 : plcL [32, 111, 112, 32] op ++ r4 = r3 at H2 ⊢
  have H1 : Halt pcB (numL [32, 116, 120, 110, 32] (tx : Int) ++ r3) := halt_num _ (by decide) _ _ _
  generalize hr2 : numL [32, 116, 120, 110, 32] (tx : Int) ++ r3 = r2 at H1 ⊢
  have H0 : Halt pcB (numL [32, 116, 105, 109, 101, 32] (tm : Int) ++ r2) := halt_num _ (by decide) _ _ _
  generalize hr1 : numL [32, 116, 105, 109, 101, 32] (tm : Int) ++ r2 = r1 at H0 ⊢
  obtain ⟨a0, b0⟩ := qk_app (words_ne vWords_nodup w1) w1 w3 H0
  obtain ⟨a1, b1⟩ := qn_app false (n := tm) (by omega) [32, 116, 105, 109, 101, 32] H1
  obtain ⟨a2, b2⟩ := qn_app false (n := tx) (by omega) [32, 116, 120, 110, 32] H2
  obtain ⟨a3, b3⟩ := qp_num (n := op) (by omega) (by omega) [32, 111, 112, 32] H3
  obtain ⟨a4, b4⟩ := qp_num (n := wi) (by omega) (by omega) [32, 119, 105, 116, 110, 101, 115, 115, 32] H4
  obtain ⟨a5, -, b5⟩ := qw_app false (bt key) [32, 107, 101, 121, 32] H5
  obtain ⟨a6, c6, b6⟩ := qw_val hex [32, 119, 97, 110, 116, 32] H6
  obtain ⟨a7, c7, b7⟩ := qw_val hob [32, 103, 111, 116, 32] H7
  obtain ⟨a8, b8⟩ := qn_app false (n := fr) (by omega) [32, 102, 114, 111, 109, 32] H8
  obtain ⟨a9, b9⟩ := qn_app false (n := tt) (by omega) [32, 116, 111, 32] H9
  have ek : ([32, 107, 101, 121, 32] ++ wd (bt key)) ++ r6 = r5 := by
    rw [← hr5]
    unfold vaL
    rw [if_pos rfl]
  rw [hr1] at a1 b1
  rw [hr2] at a2 b2
  rw [hr3] at a3 b3
  rw [hr4] at a4 b4
  rw [ek] at a5 b5
  rw [hr6] at a6 c6 b6
  rw [hr7] at a7 c7 b7
  rw [hr8] at a8 b8
  rw [hr9] at a9 b9
  have e1 : qv1 ⟨v ++ r1, false⟩ = ⟨r1, false⟩ := b0
  generalize hs : (⟨v ++ r1, false⟩ : Rs) = s at *
  have e2 : qv2 s = ⟨r2, false⟩ := by unfold qv2; rw [e1]; exact b1
  have e3 : qv3 s = ⟨r3, false⟩ := by unfold qv3; rw [e2]; exact b2
  have e4 : qv4 s = ⟨r4, false⟩ := by unfold qv4; rw [e3]; exact b3
  have e5 : qv5 s = ⟨r5, false⟩ := by unfold qv5; rw [e4]; exact b4
  have e6 : qv6 s = ⟨r6, false⟩ := by unfold qv6; rw [e5]; exact b5
  have e7 : qv7 s = ⟨r7, false⟩ := by unfold qv7; rw [e6]; exact b6
  have e8 : qv8 s = ⟨r8, false⟩ := by unfold qv8; rw [e7]; exact b7
  have e9 : qv9 s = ⟨r9, false⟩ := by unfold qv9; rw [e8]; exact b8
  have eA : qvA s = ⟨10 :: r, false⟩ := by unfold qvA; rw [e9]; exact b9
  refine ⟨?_, by unfold qvB; rw [eA]; exact qm_app [10] r⟩
  unfold qvR
  rw [e1, e2, e3, e4, e5, e6, e7, e8, e9, a0, a1, a2, a3, a4, a5, a6, c6, a7, c7, a8, a9, bts_bt, bts_bt, bts_bt]
theorem qv_inv {s : Rs} (h : (qvB s).f = false) : s.f = false ∧ s.l = vioL (qvR s) ++ (qvB s).l := by
  obtain ⟨gA, tA⟩ := qm_inv (s := qvA s) h
  obtain ⟨g9, t9⟩ := qn_num (s := qv9 s) gA
  obtain ⟨g8, t8⟩ := qn_num (s := qv8 s) g9
  obtain ⟨g7, _, t7⟩ := qw_inv (s := qv7 s) g8
  obtain ⟨g6, _, t6⟩ := qw_inv (s := qv6 s) g7
  obtain ⟨g5, k5, t5⟩ := qw_inv (s := qv5 s) g6
  obtain ⟨g4, t4⟩ := qn_inv (s := qv4 s) g5
  obtain ⟨g3, t3⟩ := qn_inv (s := qv3 s) g4
  obtain ⟨g2, t2⟩ := qn_num (s := qv2 s) g3
  obtain ⟨g1, t1⟩ := qn_num (s := qv1 s) g2
  obtain ⟨g0, i, v, k1, k2, t0⟩ := qk_inv (s := s) g1
  refine ⟨g0, ?_⟩
  have hi : i < 10 := (List.getElem?_eq_some_iff.1 k2).1
  obtain ⟨v', w1, w2, _⟩ := vWords_at hi
  obtain rfl : v' = v := Option.some.inj (w1.symm.trans k2)
  rw [k5 rfl] at t5
  clear g0 g1 g2 g3 g4 g5 g6 g7 g8 g9 gA h k2 w1 hi k5
  have q0 : s.l = v' ++ (qv1 s).l := t0
  have q1 : (qv1 s).l = numL [32, 116, 105, 109, 101, 32] (qnN false [32, 116, 105, 109, 101, 32] (qv1 s)) ++ (qv2 s).l := t1
  have q2 : (qv2 s).l = numL [32, 116, 120, 110, 32] (qnN false [32, 116, 120, 110, 32] (qv2 s)) ++ (qv3 s).l := t2
  have q3 : (qv3 s).l = plcL [32, 111, 112, 32] (qnN true [32, 111, 112, 32] (qv3 s)) ++ (qv4 s).l := t3
  have q4 : (qv4 s).l = plcL [32, 119, 105, 116, 110, 101, 115, 115, 32] (qnN true [32, 119, 105, 116, 110, 101, 115, 115, 32] (qv4 s)) ++ (qv5 s).l := t4
  have q5 : (qv5 s).l = vaL [32, 107, 101, 121, 32] true (qwN false [32, 107, 101, 121, 32] (qv5 s)) ++ (qv6 s).l := t5
  have q6 : (qv6 s).l = vaL [32, 119, 97, 110, 116, 32] (qwB true [32, 119, 97, 110, 116, 32] (qv6 s)) (qwN true [32, 119, 97, 110, 116, 32] (qv6 s)) ++ (qv7 s).l := t6
  have q7 : (qv7 s).l = vaL [32, 103, 111, 116, 32] (qwB true [32, 103, 111, 116, 32] (qv7 s)) (qwN true [32, 103, 111, 116, 32] (qv7 s)) ++ (qv8 s).l := t7
  have q8 : (qv8 s).l = numL [32, 102, 114, 111, 109, 32] (qnN false [32, 102, 114, 111, 109, 32] (qv8 s)) ++ (qv9 s).l := t8
  have q9 : (qv9 s).l = numL [32, 116, 111, 32] (qnN false [32, 116, 111, 32] (qv9 s)) ++ (qvA s).l := t9
  have qA : (qvA s).l = 10 :: (qvB s).l := tA
  clear t0 t1 t2 t3 t4 t5 t6 t7 t8 t9 tA
  rw [vioQ_eq]
  unfold vioQ qvR
  dsimp only
  rw [k1, w2, bt_bts, bt_bts, bt_bts, ← qA, ← q9, ← q8, ← q7, ← q6, ← q5, ← q4, ← q3, ← q2, ← q1]
  exact q0
/-- The lines of violations. -/
def qvs : Nat → Nat → List Vi.Vl → Rs → List Vi.Vl × Rs
  | 0, _, acc, s => (acc, s)
  | n + 1, m, acc, s => if acc.length < m ∧ s.f = false then qvs n m (acc ++ [qvR s]) (qvB s) else (acc, s)
theorem qvs_stop {n m : Nat} {acc : List Vi.Vl} {s : Rs} (h : ¬ (acc.length < m ∧ s.f = false)) : qvs n m acc s = (acc, s) := by
  cases n with
  | zero => rfl
  | succ n => unfold qvs; rw [if_neg h]
theorem qvs_go {n m : Nat} {acc : List Vi.Vl} {s : Rs} (h : acc.length < m ∧ s.f = false) : qvs (n + 1) m acc s = qvs n m (acc ++ [qvR s]) (qvB s) := by
  rw [qvs, if_pos h]
theorem qvs_app : ∀ (ls : List Vi.Vl) (n m : Nat) (acc : List Vi.Vl) (r : List UInt8), (∀ x ∈ ls, Vi.okV x = true) → ls.length ≤ n → acc.length + ls.length = m → qvs n m acc ⟨ls.flatMap vioL ++ r, false⟩ = (acc ++ ls, ⟨r, false⟩)
  | [], n, m, acc, r, _, _, hm => by
    rw [qvs_stop (fun h => by have := h.1; simp at hm; omega), List.append_nil]
    rfl
  | x :: ls, 0, m, acc, r, _, hn, _ => by simp at hn
  | x :: ls, n + 1, m, acc, r, hx, hn, hm => by
    have hm' : acc.length + (ls.length + 1) = m := hm
    have hn' : ls.length + 1 ≤ n + 1 := hn
    rw [qvs_go ⟨by omega, rfl⟩, List.flatMap_cons, List.append_assoc]
    obtain ⟨a, b⟩ := qv_app (hx x List.mem_cons_self) (ls.flatMap vioL ++ r)
    rw [a, b, qvs_app ls n m (acc ++ [x]) r (fun y hy => hx y (List.mem_cons_of_mem _ hy)) (by omega) (by rw [List.length_append, List.length_singleton]; omega), List.append_assoc]
    rfl
theorem qvs_inv : ∀ (n m : Nat) (acc : List Vi.Vl) (s : Rs), acc.length ≤ m → m ≤ acc.length + n → (qvs n m acc s).2.f = false → s.f = false ∧ ∃ ls, (qvs n m acc s).1 = acc ++ ls ∧ acc.length + ls.length = m ∧ s.l = ls.flatMap vioL ++ (qvs n m acc s).2.l
  | 0, m, acc, s, h1, h2, h => ⟨h, [], (List.append_nil _).symm, by simp; omega, rfl⟩
  | n + 1, m, acc, s, h1, h2, h => by
    by_cases c : acc.length < m ∧ s.f = false
    · rw [qvs_go c] at h ⊢
      obtain ⟨g1, ls, g2, g3, g4⟩ := qvs_inv n m (acc ++ [qvR s]) (qvB s) (by rw [List.length_append, List.length_singleton]; omega) (by rw [List.length_append, List.length_singleton]; omega) h
      obtain ⟨i1, i2⟩ := qv_inv g1
      refine ⟨i1, qvR s :: ls, by rw [g2, List.append_assoc]; rfl, by rw [List.length_append, List.length_singleton] at g3; rw [List.length_cons]; omega, ?_⟩
      rw [List.flatMap_cons, List.append_assoc, ← g4]
      exact i2
    · rw [qvs_stop c] at h ⊢
      have hf : s.f = false := h
      exact ⟨hf, [], (List.append_nil _).symm, by have : ¬ acc.length < m := fun x => c ⟨x, hf⟩; simp; omega, rfl⟩
end Go.Proofs.YtfhaiklfbnfdlaaDoor

namespace Go.Proofs.YtfhaiklfbnfdlaaDoor
open Go.RowKit

/-- The document's reader in memory: the text, a place, whether it failed. -/
def QdP (w : World) (rb : Nat) (T : List UInt8) (k : Nat) (f : Bool) : Prop := w.heap[rb]? = some (.cells #[tx T, .int .i64 (k : Int), .bool f] 61 (0, 0))
structure Qd (w : World) (rb : Nat) (T : List UInt8) (s : Rs) : Prop where
  at_ : ∃ k, k ≤ T.length ∧ s.l = T.drop k ∧ QdP w rb T k s.f
theorem Qd.kept {w w' : World} {rb : Nat} {T : List UInt8} {s : Rs} (h : Qd w rb T s) (k : Kept w w') : Qd w' rb T s := by
  obtain ⟨k', h1, h2, h3⟩ := h.at_
  exact ⟨⟨k', h1, h2, (k.block _ (lt_of_heap h3) (fun e => e)).trans h3⟩⟩
theorem QdP.facts {w : World} {rb : Nat} {T : List UInt8} {k : Nat} {f : Bool} (h : QdP w rb T k f) : rb < w.heap.size ∧ w.cell? ⟨rb, 0, none⟩ = some (tx T) ∧ w.cell? ⟨rb, 1, none⟩ = some (.int .i64 (k : Int)) ∧ w.cell? ⟨rb, 2, none⟩ = some (.bool f) ∧ w.frozen? ⟨rb, 0, none⟩ = false ∧ w.frozen? ⟨rb, 1, none⟩ = false ∧ w.frozen? ⟨rb, 2, none⟩ = false := ⟨lt_of_heap h, (cell_of h 0).trans rfl, (cell_of h 1).trans rfl, (cell_of h 2).trans rfl, frozen_of h 0, frozen_of h 1, frozen_of h 2⟩
theorem QdP.put1 {w : World} {rb : Nat} {T : List UInt8} {k : Nat} {f : Bool} (h : QdP w rb T k f) (m : Nat) : QdP (w.setCell ⟨rb, 1, none⟩ (.int .i64 (m : Int))) rb T m f ∧ Mv rb w (w.setCell ⟨rb, 1, none⟩ (.int .i64 (m : Int))) := ⟨setCell_at h 1 _, Same.setCell (S := fun k => k = rb) (Same.refl _ w) _ (.inr rfl) _⟩
theorem QdP.put2 {w : World} {rb : Nat} {T : List UInt8} {k : Nat} {f : Bool} (h : QdP w rb T k f) (b : Bool) : QdP (w.setCell ⟨rb, 2, none⟩ (.bool b)) rb T k b ∧ Mv rb w (w.setCell ⟨rb, 2, none⟩ (.bool b)) := ⟨setCell_at h 2 _, Same.setCell (S := fun k => k = rb) (Same.refl _ w) _ (.inr rfl) _⟩
theorem QdP.kept {w w' : World} {rb : Nat} {T : List UInt8} {k : Nat} {f : Bool} (h : QdP w rb T k f) (s : Kept w w') : QdP w' rb T k f := (s.block _ (lt_of_heap h) (fun e => e)).trans h
set_option maxRecDepth 100000 in
set_option maxHeartbeats 1600000 in
theorem qmust {w : World} {rb : Nat} {T : List UInt8} {s : Rs} (h : Qd w rb T s) (hT : T.length ≤ 1099511627776) (p : List UInt8) (hp : p.length ≤ 1099511627776) : Calls Tryd.prog 35 #[rdp rb, tx p] w fun e w' => e = .returned (.tuple #[]) ∧ Qd w' rb T (qm p s) ∧ Mv rb w w' := by
  obtain ⟨k, hk, el, hb⟩ := h.at_
  obtain ⟨sl, sf⟩ := s
  dsimp only at el hb
  subst el
  have mixed : Tryd.prog.follows .mixedOrders = true := by kernel_rfl
  have HB : Hid (QdP w rb T k sf) := hb
  obtain ⟨h0, h1, h2, h3, h4, h5, h6⟩ := hb.facts
  have c0 : ∀ n os, _ := fun n os => cell_grown (a := ⟨rb, 0, none⟩) h0 h1 n os
  have c1 : ∀ n os, _ := fun n os => cell_grown (a := ⟨rb, 1, none⟩) h0 h2 n os
  have c2 : ∀ n os, _ := fun n os => cell_grown (a := ⟨rb, 2, none⟩) h0 h3 n os
  have hw1 : wrap64 ((T.length : Int) - (k : Int)) = (T.length : Int) - (k : Int) := by unfold wrap64; omega
  have hw2 : wrap64 ((k : Int) + (p.length : Int)) = (k : Int) + (p.length : Int) := by unfold wrap64; omega
  have HF : Hid (∀ W, Vi.Grw w W → Qd (W.setCell ⟨rb, 2, none⟩ (.bool true)) rb T ⟨T.drop k, true⟩ ∧ Mv rb w (W.setCell ⟨rb, 2, none⟩ (.bool true))) := fun W g => by
    have hb' : QdP W rb T k sf := hb.kept g.kept
    obtain ⟨a, b⟩ := hb'.put2 true
    exact ⟨⟨k, hk, rfl, a⟩, (g.kept.to _).trans' b⟩
  clear h hb
  cases sf with
  | true =>
    have EQ : Hid (qm p ⟨T.drop k, true⟩ = ⟨T.drop k, true⟩) := qm_bad rfl
    go_enter Tryd.func35, Tryd.ntmps35
    go_wp2_with fail
    refine wp_region_quiet_grown mixed (by kernel_rfl) ?_
    repeat (go_big_quiet_step (fail))
    refine wpQuiet_nil ?_
    intro _ hw'
    obtain ⟨⟨nq, osq⟩, hw''⟩ := hw'
    subst hw''
    have G : Hid (Vi.Grw w (Sort.grow (w.drewN nq) osq)) := ⟨nq, osq, rfl⟩
    generalize Sort.grow (w.drewN nq) osq = W5 at G ⊢
    clear c0 c1 c2
    obtain ⟨h0, h1, h2, h3, h4, h5, h6⟩ := (HB.out.kept G.out.kept).facts
    go_wp2_with fail
    first | refine bodyPost_ret (results_none rfl _ _ _) rfl ?_ | refine bodyPost_end (results_none rfl _ _ _) rfl ?_
    rw [EQ.out]
    exact ⟨rfl, HF.out _ G.out⟩
  | false =>
    have HM : Hid (qm p ⟨T.drop k, false⟩ = mst p ⟨T.drop k, false⟩) := if_neg Bool.false_ne_true
    have EH : Hid (Lib.hasPrefix (T.drop k) p = (decide (p.length ≤ (T.drop k).length) && decide ((T.drop k).take p.length = p))) := has_iff _ _
    by_cases hlen : (T.length : Int) - (k : Int) < (p.length : Int)
    · have EQ : Hid (qm p ⟨T.drop k, false⟩ = ⟨T.drop k, true⟩) := by
        have e : Lib.hasPrefix (T.drop k) p = false := by rw [EH.out, decide_eq_false (p := p.length ≤ _) (by rw [List.length_drop]; omega), Bool.false_and]
        show _ = _
        rw [HM.out]
        unfold mst Lib.trimPrefix
        dsimp only
        rw [e]
        rfl
      have g1 : decide ((p.length : Int) > (T.length : Int) - (k : Int)) = true := decide_eq_true (by omega)
      clear HM EH
      go_enter Tryd.func35, Tryd.ntmps35
      go_wp2_with fail
      refine wp_region_quiet_grown mixed (by kernel_rfl) ?_
      repeat (go_big_quiet_step (fail))
      refine wpQuiet_nil ?_
      intro _ hw'
      obtain ⟨⟨nq, osq⟩, hw''⟩ := hw'
      subst hw''
      have G : Hid (Vi.Grw w (Sort.grow (w.drewN nq) osq)) := ⟨nq, osq, rfl⟩
      generalize Sort.grow (w.drewN nq) osq = W5 at G ⊢
      clear c0 c1 c2
      obtain ⟨h0, h1, h2, h3, h4, h5, h6⟩ := (HB.out.kept G.out.kept).facts
      go_wp2_with fail
      first | refine bodyPost_ret (results_none rfl _ _ _) rfl ?_ | refine bodyPost_end (results_none rfl _ _ _) rfl ?_
      rw [EQ.out]
      exact ⟨rfl, HF.out _ G.out⟩
    · have g1 : decide ((p.length : Int) > (T.length : Int) - (k : Int)) = false := decide_eq_false (by omega)
      have hs : ∀ w, (Instr.slice 9 (tx T) (some (.int .i64 (k : Int))) (some (.int .i64 ((k : Int) + (p.length : Int)))) none).run Tryd.prog w = .ok (tx ((T.drop k).take p.length)) w := fun w => by
        have := mid_tx T k (k + p.length) (by omega) (by omega) w
        rw [show k + p.length - k = p.length by omega, Int.natCast_add] at this
        exact this
      have EH2 : Hid (Lib.hasPrefix (T.drop k) p = decide ((T.drop k).take p.length = p)) := by
        show _ = _
        rw [EH.out, decide_eq_true (by rw [List.length_drop]; omega), Bool.true_and]
      have HD : Hid ((T.drop k).drop p.length = T.drop (k + p.length) ∧ k + p.length ≤ T.length) := ⟨by rw [List.drop_drop], by omega⟩
      by_cases he : (T.drop k).take p.length = p
      · have q1 : ((T.drop k).take p.length == p) = true := beq_iff_eq.2 he
        have q2 : ((T.drop k).take p.length != p) = false := by rw [bne, q1]; rfl
        have EQ : Hid (qm p ⟨T.drop k, false⟩ = ⟨T.drop (k + p.length), false⟩) := by
          have e : Lib.hasPrefix (T.drop k) p = true := EH2.out.trans (decide_eq_true he)
          show _ = _
          rw [HM.out, ← HD.out.1]
          unfold mst Lib.trimPrefix
          dsimp only
          rw [e]
          rfl
        have HG : Hid (∀ W, Vi.Grw w W → Qd (W.setCell ⟨rb, 1, none⟩ (.int .i64 ((k : Int) + (p.length : Int)))) rb T ⟨T.drop (k + p.length), false⟩ ∧ Mv rb w (W.setCell ⟨rb, 1, none⟩ (.int .i64 ((k : Int) + (p.length : Int))))) := fun W g => by
          obtain ⟨a, b⟩ := (HB.out.kept g.kept).put1 (k + p.length)
          rw [Int.natCast_add] at a b
          exact ⟨⟨k + p.length, HD.out.2, rfl, a⟩, (g.kept.to _).trans' b⟩
        clear HM EH EH2 he HF
        generalize (T.drop k).take p.length = m at *
        go_enter Tryd.func35, Tryd.ntmps35
        go_wp2_with fail
        refine wp_region_quiet_grown mixed (by kernel_rfl) ?_
        repeat (go_big_quiet_step (fail))
        refine wpQuiet_nil ?_
        intro _ hw'
        obtain ⟨⟨nq, osq⟩, hw''⟩ := hw'
        subst hw''
        have G : Hid (Vi.Grw w (Sort.grow (w.drewN nq) osq)) := ⟨nq, osq, rfl⟩
        generalize Sort.grow (w.drewN nq) osq = W5 at G ⊢
        clear c0 c1 c2
        obtain ⟨h0, h1, h2, h3, h4, h5, h6⟩ := (HB.out.kept G.out.kept).facts
        go_wp2_with fail
        first | refine bodyPost_ret (results_none rfl _ _ _) rfl ?_ | refine bodyPost_end (results_none rfl _ _ _) rfl ?_
        rw [EQ.out]
        exact ⟨rfl, HG.out _ G.out⟩
      · have q1 : ((T.drop k).take p.length == p) = false := beq_eq_false_iff_ne.2 he
        have q2 : ((T.drop k).take p.length != p) = true := by rw [bne, q1]; rfl
        have EQ : Hid (qm p ⟨T.drop k, false⟩ = ⟨T.drop k, true⟩) := by
          have e : Lib.hasPrefix (T.drop k) p = false := EH2.out.trans (decide_eq_false he)
          show _ = _
          rw [HM.out]
          unfold mst Lib.trimPrefix
          dsimp only
          rw [e]
          rfl
        clear HM EH EH2 he HD
        generalize (T.drop k).take p.length = m at *
        go_enter Tryd.func35, Tryd.ntmps35
        go_wp2_with fail
        refine wp_region_quiet_grown mixed (by kernel_rfl) ?_
        repeat (go_big_quiet_step (fail))
        refine wpQuiet_nil ?_
        intro _ hw'
        obtain ⟨⟨nq, osq⟩, hw''⟩ := hw'
        subst hw''
        have G : Hid (Vi.Grw w (Sort.grow (w.drewN nq) osq)) := ⟨nq, osq, rfl⟩
        generalize Sort.grow (w.drewN nq) osq = W5 at G ⊢
        clear c0 c1 c2
        obtain ⟨h0, h1, h2, h3, h4, h5, h6⟩ := (HB.out.kept G.out.kept).facts
        go_wp2_with fail
        first | refine bodyPost_ret (results_none rfl _ _ _) rfl ?_ | refine bodyPost_end (results_none rfl _ _ _) rfl ?_
        rw [EQ.out]
        exact ⟨rfl, HF.out _ G.out⟩
end Go.Proofs.YtfhaiklfbnfdlaaDoor

namespace Go.Proofs.YtfhaiklfbnfdlaaDoor
open Go.RowKit

theorem lead_to {f : UInt8 → Bool} {T : List UInt8} {k m : Nat} (hkm : k ≤ m) (ha : ∀ i, k ≤ i → i < m → ∃ b, T[i]? = some b ∧ f b = true) (he : ∀ b, T[m]? = some b → f b = false) : lead f (T.drop k) = m - k := by
  refine lead_eq (k := m - k) (fun i hi => ?_) (fun b hb => ?_)
  · obtain ⟨b, h1, h2⟩ := ha (k + i) (by omega) (by omega)
    exact ⟨b, by rw [List.getElem?_drop]; exact h1, h2⟩
  · rw [List.getElem?_drop, show k + (m - k) = m by omega] at hb
    exact he b hb
set_option maxRecDepth 100000 in
set_option maxHeartbeats 1600000 in
theorem qpiece {w : World} {rb : Nat} {T : List UInt8} {s : Rs} (h : Qd w rb T s) (hT : T.length ≤ 1099511627776) : Calls Tryd.prog 53 #[rdp rb] w fun e w' => e = .returned (tx (qpV s)) ∧ Qd w' rb T (qpS s) ∧ Mv rb w w' := by
  obtain ⟨k, hk, el, hb⟩ := h.at_
  obtain ⟨sl, sf⟩ := s
  dsimp only at el hb
  subst el
  have mixed : Tryd.prog.follows .mixedOrders = true := by kernel_rfl
  have HB : Hid (QdP w rb T k sf) := hb
  obtain ⟨h0, h1, h2, h3, h4, h5, h6⟩ := hb.facts
  have HE : Hid (∀ m, k ≤ m → m ≤ T.length → (∀ i, k ≤ i → i < m → ∃ b, T[i]? = some b ∧ pcB b = true) → (∀ b, T[m]? = some b → pcB b = false) → qpV ⟨T.drop k, sf⟩ = (T.drop k).take (m - k) ∧ qpS ⟨T.drop k, sf⟩ = ⟨T.drop m, sf⟩) := fun m hm hm2 ha he => by
    have e := lead_to hm ha he
    unfold qpV qpS
    dsimp only
    rw [e, List.drop_drop, show k + (m - k) = m by omega]
    exact ⟨rfl, rfl⟩
  clear h hb
  go_enter Tryd.func53, Tryd.ntmps53
  go_wp2_with fail
  go_loopw [] (fun wr => ∃ m : Nat, k ≤ m ∧ m ≤ T.length ∧ (∀ i, k ≤ i → i < m → ∃ b, T[i]? = some b ∧ pcB b = true) ∧ QdP wr rb T m sf ∧ Mv rb w wr) (fun wr => T.length - (intOf ((wr.cell? ⟨rb, 1, none⟩).getD (.int .i64 0))).toNat)
  case atStart => exact ⟨k, Nat.le_refl _, hk, fun i h1 h2 => by omega, HB.out, Same.refl _ _⟩
  case round =>
    obtain ⟨m, hkm, hmT, ha, hq, hmv⟩ := hrel
    rename World => WL
    have HQ : Hid (QdP WL rb T m sf ∧ Mv rb w WL) := ⟨hq, hmv⟩
    have HA : Hid (∀ i, k ≤ i → i < m → ∃ b, T[i]? = some b ∧ pcB b = true) := ha
    have HK : Hid (k ≤ m ∧ m ≤ T.length) := ⟨hkm, hmT⟩
    obtain ⟨h0, h1, h2, h3, h4, h5, h6⟩ := hq.facts
    have c0 : ∀ n os, _ := fun n os => cell_grown (a := ⟨rb, 0, none⟩) h0 h1 n os
    have c1 : ∀ n os, _ := fun n os => cell_grown (a := ⟨rb, 1, none⟩) h0 h2 n os
    have c2 : ∀ n os, _ := fun n os => cell_grown (a := ⟨rb, 2, none⟩) h0 h3 n os
    have hs : ∀ w, (Instr.slice 9 (tx T) (some (.int .i64 (k : Int))) (some (.int .i64 (m : Int))) none).run Tryd.prog w = .ok (tx ((T.drop k).take (m - k))) w := fun w => mid_tx T k m hkm hmT w
    have hm2 : (m : Int) ≤ 1099511627776 := by omega
    clear ha hq hmv
    by_cases hlt : m < T.length
    · have g1 : decide ((m : Int) < (T.length : Int)) = true := decide_eq_true (by omega)
      have g1' : (m : Int) < (T.length : Int) := by omega
      obtain ⟨b, hb⟩ : ∃ b, T[m]? = some b := ⟨_, List.getElem?_eq_getElem hlt⟩
      have hix : ∀ w, (Instr.index 9 (tx T) (.int .i64 (m : Int))).run Tryd.prog w = _ := idx_tx hb
      have HBB : Hid (T[m]? = some b) := hb
      clear hb
      by_cases h32 : b = 32
      · have EX : Hid _ := HE.out m HK.out.1 HK.out.2 HA.out (fun b' hb' => by rw [HBB.out] at hb'; cases hb'; rw [h32]; decide)
        have q1 : ((b.toNat : Int) == 32) = true := by rw [h32]; rfl
        have q2 : ((b.toNat : Int) != 32) = false := by rw [bne, q1]; rfl
        clear h32 HA HBB
        go_wp2_with fail
        refine wp_region_quiet_grown mixed (by kernel_rfl) ?_
        repeat (go_big_quiet_step (fail))
        refine wpQuiet_nil ?_
        intro _ hw'
        obtain ⟨⟨nq, osq⟩, hw''⟩ := hw'
        subst hw''
        have G : Hid (Vi.Grw WL (Sort.grow (WL.drewN nq) osq)) := ⟨nq, osq, rfl⟩
        generalize Sort.grow (WL.drewN nq) osq = W5 at G ⊢
        have HB5 : Hid (QdP W5 rb T m sf) := HQ.out.1.kept G.out.kept
        clear c0 c1 c2 h0 h1 h2 h3 h4 h5 h6
        obtain ⟨h0, h1, h2, h3, h4, h5, h6⟩ := HB5.out.facts
        have c0 : ∀ n os, _ := fun n os => cell_grown (a := ⟨rb, 0, none⟩) h0 h1 n os
        have c1 : ∀ n os, _ := fun n os => cell_grown (a := ⟨rb, 1, none⟩) h0 h2 n os
        have c2 : ∀ n os, _ := fun n os => cell_grown (a := ⟨rb, 2, none⟩) h0 h3 n os
        go_wp2_with fail
        refine wp_region_quiet_grown mixed (by kernel_rfl) ?_
        repeat (go_big_quiet_step (fail))
        refine wpQuiet_nil ?_
        intro _ hw'
        obtain ⟨⟨nq, osq⟩, hw''⟩ := hw'
        subst hw''
        have G2 : Hid (Vi.Grw W5 (Sort.grow (W5.drewN nq) osq)) := ⟨nq, osq, rfl⟩
        generalize Sort.grow (W5.drewN nq) osq = W6 at G2 ⊢
        clear c0 c1 c2 h0 h1 h2 h3 h4 h5 h6
        go_wp2_with fail
        go_ret
        rw [EX.out.1, EX.out.2]
        exact ⟨rfl, ⟨⟨m, HK.out.2, rfl, HB5.out.kept G2.out.kept⟩⟩, (HQ.out.2.trans' (G.out.kept.to _)).trans' (G2.out.kept.to _)⟩
      · have q1 : ((b.toNat : Int) == 32) = false := (eq_b b 32).trans (beq_eq_false_iff_ne.2 h32)
        have q2 : ((b.toNat : Int) != 32) = true := by rw [bne, q1]; rfl
        by_cases h10 : b = 10
        · have EX : Hid _ := HE.out m HK.out.1 HK.out.2 HA.out (fun b' hb' => by rw [HBB.out] at hb'; cases hb'; rw [h10]; decide)
          have q3 : ((b.toNat : Int) == 10) = true := by rw [h10]; rfl
          have q4 : ((b.toNat : Int) != 10) = false := by rw [bne, q3]; rfl
          clear h32 h10 HA HBB
          go_wp2_with fail
          refine wp_region_quiet_grown mixed (by kernel_rfl) ?_
          repeat (go_big_quiet_step (fail))
          refine wpQuiet_nil ?_
          intro _ hw'
          obtain ⟨⟨nq, osq⟩, hw''⟩ := hw'
          subst hw''
          have G : Hid (Vi.Grw WL (Sort.grow (WL.drewN nq) osq)) := ⟨nq, osq, rfl⟩
          generalize Sort.grow (WL.drewN nq) osq = W5 at G ⊢
          have HB5 : Hid (QdP W5 rb T m sf) := HQ.out.1.kept G.out.kept
          clear c0 c1 c2 h0 h1 h2 h3 h4 h5 h6
          obtain ⟨h0, h1, h2, h3, h4, h5, h6⟩ := HB5.out.facts
          have c0 : ∀ n os, _ := fun n os => cell_grown (a := ⟨rb, 0, none⟩) h0 h1 n os
          have c1 : ∀ n os, _ := fun n os => cell_grown (a := ⟨rb, 1, none⟩) h0 h2 n os
          have c2 : ∀ n os, _ := fun n os => cell_grown (a := ⟨rb, 2, none⟩) h0 h3 n os
          go_wp2_with fail
          refine wp_region_quiet_grown mixed (by kernel_rfl) ?_
          repeat (go_big_quiet_step (fail))
          refine wpQuiet_nil ?_
          intro _ hw'
          obtain ⟨⟨nq, osq⟩, hw''⟩ := hw'
          subst hw''
          have G2 : Hid (Vi.Grw W5 (Sort.grow (W5.drewN nq) osq)) := ⟨nq, osq, rfl⟩
          generalize Sort.grow (W5.drewN nq) osq = W6 at G2 ⊢
          clear c0 c1 c2 h0 h1 h2 h3 h4 h5 h6
          go_wp2_with fail
          go_ret
          rw [EX.out.1, EX.out.2]
          exact ⟨rfl, ⟨⟨m, HK.out.2, rfl, HB5.out.kept G2.out.kept⟩⟩, (HQ.out.2.trans' (G.out.kept.to _)).trans' (G2.out.kept.to _)⟩
        · have q3 : ((b.toNat : Int) == 10) = false := (eq_b b 10).trans (beq_eq_false_iff_ne.2 h10)
          have q4 : ((b.toNat : Int) != 10) = true := by rw [bne, q3]; rfl
          have HP : Hid (pcB b = true) := by
            show _ = _
            unfold pcB
            rw [Bool.and_eq_true, bne_iff_ne, bne_iff_ne]
            exact ⟨h32, h10⟩
          clear h32 h10
          go_wp2_with fail
          refine wp_region_quiet_grown mixed (by kernel_rfl) ?_
          repeat (go_big_quiet_step (fail))
          refine wpQuiet_nil ?_
          intro _ hw'
          obtain ⟨⟨nq, osq⟩, hw''⟩ := hw'
          subst hw''
          have G : Hid (Vi.Grw WL (Sort.grow (WL.drewN nq) osq)) := ⟨nq, osq, rfl⟩
          generalize Sort.grow (WL.drewN nq) osq = W5 at G ⊢
          have HB5 : Hid (QdP W5 rb T m sf) := HQ.out.1.kept G.out.kept
          have H6 : Hid _ := HB5.out.put1 (m + 1)
          clear c0 c1 c2 h0 h1 h2 h3 h4 h5 h6
          obtain ⟨h0, h1, h2, h3, h4, h5, h6⟩ := HB5.out.facts
          go_wp2_with fail
          go_roundw
          case rel =>
            refine ⟨m + 1, by omega, hlt, fun i h1 h2 => ?_, by simpa using H6.out.1, (HQ.out.2.trans' (G.out.kept.to _)).trans' (by simpa using H6.out.2)⟩
            by_cases e : i < m
            · exact HA.out i h1 e
            · obtain rfl : i = m := by omega
              exact ⟨b, HBB.out, HP.out⟩
          case measure =>
            have e1 := HQ.out.1.facts.2.2.1
            have e2 := (show QdP _ rb T (m + 1) sf from by simpa using H6.out.1).facts.2.2.1
            simp only [Int.natCast_add, Int.natCast_one] at e2
            rw [e1, e2]
            simp only [Option.getD_some, intOf]
            omega
    · have g1 : decide ((m : Int) < (T.length : Int)) = false := decide_eq_false (by omega)
      have g1' : ¬ (m : Int) < (T.length : Int) := by omega
      have EX : Hid _ := HE.out m HK.out.1 HK.out.2 HA.out (fun b' hb' => by rw [List.getElem?_eq_none (by omega)] at hb'; cases hb')
      clear HA
      go_wp2_with fail
      refine wp_region_quiet_grown mixed (by kernel_rfl) ?_
      repeat (go_big_quiet_step (fail))
      refine wpQuiet_nil ?_
      intro _ hw'
      obtain ⟨⟨nq, osq⟩, hw''⟩ := hw'
      subst hw''
      have G : Hid (Vi.Grw WL (Sort.grow (WL.drewN nq) osq)) := ⟨nq, osq, rfl⟩
      generalize Sort.grow (WL.drewN nq) osq = W5 at G ⊢
      have HB5 : Hid (QdP W5 rb T m sf) := HQ.out.1.kept G.out.kept
      clear c0 c1 c2 h0 h1 h2 h3 h4 h5 h6
      obtain ⟨h0, h1, h2, h3, h4, h5, h6⟩ := HB5.out.facts
      have c0 : ∀ n os, _ := fun n os => cell_grown (a := ⟨rb, 0, none⟩) h0 h1 n os
      have c1 : ∀ n os, _ := fun n os => cell_grown (a := ⟨rb, 1, none⟩) h0 h2 n os
      have c2 : ∀ n os, _ := fun n os => cell_grown (a := ⟨rb, 2, none⟩) h0 h3 n os
      go_wp2_with fail
      refine wp_region_quiet_grown mixed (by kernel_rfl) ?_
      repeat (go_big_quiet_step (fail))
      refine wpQuiet_nil ?_
      intro _ hw'
      obtain ⟨⟨nq, osq⟩, hw''⟩ := hw'
      subst hw''
      have G2 : Hid (Vi.Grw W5 (Sort.grow (W5.drewN nq) osq)) := ⟨nq, osq, rfl⟩
      generalize Sort.grow (W5.drewN nq) osq = W6 at G2 ⊢
      clear c0 c1 c2 h0 h1 h2 h3 h4 h5 h6
      go_wp2_with fail
      go_ret
      rw [EX.out.1, EX.out.2]
      exact ⟨rfl, ⟨⟨m, HK.out.2, rfl, HB5.out.kept G2.out.kept⟩⟩, (HQ.out.2.trans' (G.out.kept.to _)).trans' (G2.out.kept.to _)⟩
theorem Qd.put2 {w : World} {rb : Nat} {T : List UInt8} {s : Rs} (h : Qd w rb T s) (b : Bool) : Qd (w.setCell ⟨rb, 2, none⟩ (.bool b)) rb T ⟨s.l, b⟩ ∧ Mv rb w (w.setCell ⟨rb, 2, none⟩ (.bool b)) := by
  obtain ⟨k, h1, h2, h3⟩ := h.at_
  obtain ⟨a, m⟩ := h3.put2 b
  exact ⟨⟨k, h1, h2, a⟩, m⟩
theorem Qd.facts {w : World} {rb : Nat} {T : List UInt8} {s : Rs} (h : Qd w rb T s) : rb < w.heap.size ∧ w.cell? ⟨rb, 2, none⟩ = some (.bool s.f) ∧ w.frozen? ⟨rb, 2, none⟩ = false := by
  obtain ⟨k, h1, h2, h3⟩ := h.at_
  obtain ⟨a0, a1, a2, a3, a4, a5, a6⟩ := h3.facts
  exact ⟨a0, a3, a6⟩
theorem Qd.len {w : World} {rb : Nat} {T : List UInt8} {s : Rs} (h : Qd w rb T s) : s.l.length ≤ T.length := by
  obtain ⟨k, h1, h2, h3⟩ := h.at_
  rw [h2, List.length_drop]
  omega
theorem qpV_le (s : Rs) : (qpV s).length ≤ s.l.length := by
  unfold qpV
  rw [List.length_take]
  omega
set_option maxRecDepth 100000 in
set_option maxHeartbeats 1600000 in
theorem qnumber {w : World} {rb : Nat} {T : List UInt8} {s : Rs} (h : Qd w rb T s) (hT : T.length ≤ 1099511627776) (p : List UInt8) (hp : p.length ≤ 1099511627776) (d : Bool) : Calls Tryd.prog 38 #[rdp rb, tx p, .bool d] w fun e w' => e = .returned (.int .i64 (qnN d p s)) ∧ Qd w' rb T (qnT d p s) ∧ Mv rb w w' := by
  have H1 : Hid _ := qmust h hT p hp
  have HPC : Hid (∀ W s, Qd W rb T s → _) := fun W s (q : Qd W rb T s) => qpiece q hT
  have HNU : Hid (∀ l W, _) := rnumber_any21
  have EN : Hid (qnN d p s = if (qm p s).f = true then 0 else if qD d p s = true then -1 else (((numb (qpV (qm p s))).getD 0 : Nat) : Int)) := rfl
  have ET : Hid (qnT d p s = if (qm p s).f = true then qm p s else if qD d p s = true then qpS (qm p s) else bad (numb (qpV (qm p s))).isNone (qpS (qm p s))) := rfl
  have ED : Hid (qD d p s = (d && (qpV (qm p s) == [45]))) := rfl
  clear h hp
  generalize qnN d p s = RN at *
  generalize qnT d p s = RT at *
  generalize qD d p s = RD at *
  generalize qm p s = s1 at *
  go_enter Tryd.func38, Tryd.ntmps38
  go_wp2_with fail
  refine Calls.mono H1.out ?_
  rintro e w1 ⟨rfl, q1, m1⟩
  have Q1 : Hid (Qd w1 rb T s1 ∧ Mv rb w w1) := ⟨q1, m1⟩
  obtain ⟨h0, h1, h2⟩ := q1.facts
  clear q1 m1 H1
  obtain ⟨l1, f1⟩ := s1
  cases f1 with
  | true =>
    go_wp2_with fail
    go_ret
    rw [EN.out, ET.out]
    first | rw [if_pos rfl, if_pos rfl] | rw [if_pos trivial, if_pos trivial]
    exact ⟨rfl, Q1.out⟩
  | false =>
    have EN2 : Hid (RN = if RD = true then -1 else (((numb (qpV ⟨l1, false⟩)).getD 0 : Nat) : Int)) := EN.out.trans (if_neg Bool.false_ne_true)
    have ET2 : Hid (RT = if RD = true then qpS ⟨l1, false⟩ else bad (numb (qpV ⟨l1, false⟩)).isNone (qpS ⟨l1, false⟩)) := ET.out.trans (if_neg Bool.false_ne_true)
    have HP2 : Hid _ := HPC.out w1 _ Q1.out.1
    clear EN ET HPC
    generalize qpS ⟨l1, false⟩ = s2 at *
    generalize qpV ⟨l1, false⟩ = v at *
    go_wp2_with fail
    refine Calls.mono HP2.out ?_
    rintro e w2 ⟨rfl, q2, m2⟩
    have Q2 : Hid (Qd w2 rb T s2 ∧ Mv rb w w2) := ⟨q2, Q1.out.2.trans' m2⟩
    clear q2 m2 HP2 h0 h1 h2 Q1
    by_cases hd : d = true ∧ v = [45]
    · obtain ⟨rfl, rfl⟩ := hd
      have e1 : RD = true := ED.out
      go_wp2_with fail
      go_ret
      rw [EN2.out, ET2.out, if_pos e1, if_pos e1]
      exact ⟨rfl, Q2.out⟩
    · have e1 : RD = false := by
        rw [ED.out]
        cases d with
        | false => rfl
        | true => exact beq_eq_false_iff_ne.2 (fun e => hd ⟨rfl, e⟩)
      have EN3 : Hid (RN = (((numb v).getD 0 : Nat) : Int)) := EN2.out.trans (if_neg (by rw [e1]; decide))
      have ET3 : Hid (RT = bad (numb v).isNone s2) := ET2.out.trans (if_neg (by rw [e1]; decide))
      have hvd : d = true → (v == [45]) = false := fun e => beq_eq_false_iff_ne.2 (fun e' => hd ⟨e, e'⟩)
      clear EN2 ET2 ED e1 hd
      have HN2 : Hid _ := HNU.out v w2
      obtain ⟨h0, h1, h2⟩ := Q2.out.1.facts
      have H3 : Hid _ := Q2.out.1.put2 true
      cases d with
      | false =>
        clear hvd
        go_wp2_with fail
        refine Calls.mono HN2.out ?_
        rintro e w3 ⟨rfl, e3⟩
        subst e3
        cases ho : numb v with
        | none =>
          rw [ho] at EN3 ET3
          unfold rnV
          go_wp2_with fail
          go_ret
          rw [EN3.out, ET3.out]
          refine ⟨rfl, ?_, Q2.out.2.trans' H3.out.2⟩
          have : bad (none : Option Nat).isNone s2 = ⟨s2.l, true⟩ := by unfold bad; simp
          rw [this]
          exact H3.out.1
        | some n =>
          rw [ho] at EN3 ET3
          unfold rnV
          go_wp2_with fail
          go_ret
          rw [EN3.out, ET3.out]
          refine ⟨rfl, ?_, Q2.out.2⟩
          have : bad (some n : Option Nat).isNone s2 = s2 := by unfold bad; simp
          rw [this]
          exact Q2.out.1
      | true =>
        have hv0 := hvd rfl
        clear hvd
        go_wp2_with fail
        refine Calls.mono HN2.out ?_
        rintro e w3 ⟨rfl, e3⟩
        subst e3
        cases ho : numb v with
        | none =>
          rw [ho] at EN3 ET3
          unfold rnV
          go_wp2_with fail
          go_ret
          rw [EN3.out, ET3.out]
          refine ⟨rfl, ?_, Q2.out.2.trans' H3.out.2⟩
          have : bad (none : Option Nat).isNone s2 = ⟨s2.l, true⟩ := by unfold bad; simp
          rw [this]
          exact H3.out.1
        | some n =>
          rw [ho] at EN3 ET3
          unfold rnV
          go_wp2_with fail
          go_ret
          rw [EN3.out, ET3.out]
          refine ⟨rfl, ?_, Q2.out.2⟩
          have : bad (some n : Option Nat).isNone s2 = s2 := by unfold bad; simp
          rw [this]
          exact Q2.out.1
end Go.Proofs.YtfhaiklfbnfdlaaDoor

namespace Go.Proofs.YtfhaiklfbnfdlaaDoor
open Go.RowKit

set_option maxRecDepth 100000 in
set_option maxHeartbeats 1600000 in
theorem qword {w : World} {rb : Nat} {T : List UInt8} {s : Rs} (h : Qd w rb T s) (hT : T.length ≤ 1099511627776) (p : List UInt8) (hp : p.length ≤ 1099511627776) (d : Bool) : Calls Tryd.prog 55 #[rdp rb, tx p, .bool d] w fun e w' => e = .returned (.tuple #[tx (qwN d p s), .bool (qwB d p s)]) ∧ Qd w' rb T (qwT d p s) ∧ Mv rb w w' := by
  have H1 : Hid _ := qmust h hT p hp
  have HPC : Hid (∀ W s, Qd W rb T s → _) := fun W s (q : Qd W rb T s) => qpiece q hT
  have HNU : Hid (∀ s W, Qd W rb T s → _) := fun s W (q : Qd W rb T s) => runword_any (qpV s) W (by have := qpV_le s; have := q.len; omega)
  have EN : Hid (qwN d p s = if (qm p s).f = true then [] else if qD d p s = true then [] else (uwd (qpV (qm p s))).getD []) := rfl
  have EB : Hid (qwB d p s = if (qm p s).f = true then false else if qD d p s = true then false else (uwd (qpV (qm p s))).isSome) := rfl
  have ET : Hid (qwT d p s = if (qm p s).f = true then qm p s else if qD d p s = true then qpS (qm p s) else bad (uwd (qpV (qm p s))).isNone (qpS (qm p s))) := rfl
  have ED : Hid (qD d p s = (d && (qpV (qm p s) == [45]))) := rfl
  clear h
  generalize qwN d p s = RN at *
  generalize qwB d p s = RB at *
  generalize qwT d p s = RT at *
  generalize qD d p s = RD at *
  generalize qm p s = s1 at *
  go_enter Tryd.func55, Tryd.ntmps55
  go_wp2_with fail
  refine Calls.mono H1.out ?_
  rintro e w1 ⟨rfl, q1, m1⟩
  have Q1 : Hid (Qd w1 rb T s1 ∧ Mv rb w w1) := ⟨q1, m1⟩
  obtain ⟨h0, h1, h2⟩ := q1.facts
  clear q1 m1 H1
  obtain ⟨l1, f1⟩ := s1
  cases f1 with
  | true =>
    go_wp2_with fail
    go_ret2
    rw [EN.out, EB.out, ET.out]
    first | rw [if_pos rfl, if_pos rfl, if_pos rfl] | rw [if_pos trivial, if_pos trivial, if_pos trivial]
    exact ⟨rfl, Q1.out⟩
  | false =>
    have EN2 : Hid (RN = if RD = true then [] else (uwd (qpV ⟨l1, false⟩)).getD []) := EN.out.trans (if_neg Bool.false_ne_true)
    have EB2 : Hid (RB = if RD = true then false else (uwd (qpV ⟨l1, false⟩)).isSome) := EB.out.trans (if_neg Bool.false_ne_true)
    have ET2 : Hid (RT = if RD = true then qpS ⟨l1, false⟩ else bad (uwd (qpV ⟨l1, false⟩)).isNone (qpS ⟨l1, false⟩)) := ET.out.trans (if_neg Bool.false_ne_true)
    have HP2 : Hid _ := HPC.out w1 _ Q1.out.1
    have HN1 : Hid (∀ W, Kept w1 W ∨ Mv rb w1 W → _) := fun W (_ : Kept w1 W ∨ Mv rb w1 W) => runword_any (qpV ⟨l1, false⟩) W (by have := qpV_le ⟨l1, false⟩; have := Q1.out.1.len; omega)
    clear EN EB ET HPC HNU
    generalize qpS ⟨l1, false⟩ = s2 at *
    generalize qpV ⟨l1, false⟩ = v at *
    go_wp2_with fail
    refine Calls.mono HP2.out ?_
    rintro e w2 ⟨rfl, q2, m2⟩
    have Q2 : Hid (Qd w2 rb T s2 ∧ Mv rb w w2) := ⟨q2, Q1.out.2.trans' m2⟩
    have HN2 : Hid _ := HN1.out w2 (.inr m2)
    clear q2 m2 HP2 h0 h1 h2 Q1 HN1
    by_cases hd : d = true ∧ v = [45]
    · obtain ⟨rfl, rfl⟩ := hd
      have e1 : RD = true := ED.out
      go_wp2_with fail
      go_ret2
      rw [EN2.out, EB2.out, ET2.out, if_pos e1, if_pos e1, if_pos e1]
      exact ⟨rfl, Q2.out⟩
    · have e1 : RD = false := by
        rw [ED.out]
        cases d with
        | false => rfl
        | true => exact beq_eq_false_iff_ne.2 (fun e => hd ⟨rfl, e⟩)
      have EN3 : Hid (RN = (uwd v).getD []) := EN2.out.trans (if_neg (by rw [e1]; decide))
      have EB3 : Hid (RB = (uwd v).isSome) := EB2.out.trans (if_neg (by rw [e1]; decide))
      have ET3 : Hid (RT = bad (uwd v).isNone s2) := ET2.out.trans (if_neg (by rw [e1]; decide))
      have hvd : d = true → (v == [45]) = false := fun e => beq_eq_false_iff_ne.2 (fun e' => hd ⟨e, e'⟩)
      clear EN2 EB2 ET2 ED e1 hd
      have HF : Hid (∀ W, Kept w2 W → rb < W.heap.size ∧ W.cell? ⟨rb, 2, none⟩ = some (.bool s2.f) ∧ W.frozen? ⟨rb, 2, none⟩ = false) := fun W k => (Q2.out.1.kept k).facts
      have H3 : Hid (∀ W, Kept w2 W → Qd (W.setCell ⟨rb, 2, none⟩ (.bool true)) rb T ⟨s2.l, true⟩ ∧ Mv rb w (W.setCell ⟨rb, 2, none⟩ (.bool true))) := fun W k => by
        obtain ⟨a, b⟩ := (Q2.out.1.kept k).put2 true
        exact ⟨a, (Q2.out.2.trans' (k.to _)).trans' b⟩
      cases d with
      | false =>
        clear hvd
        go_wp2_with fail
        refine Calls.mono HN2.out ?_
        rintro e w3 ⟨rfl, k3⟩
        have K3 : Hid (Kept w2 w3) := k3
        obtain ⟨h0, h1, h2⟩ := HF.out w3 k3
        clear k3
        cases ho : uwd v with
        | none =>
          rw [ho] at EN3 EB3 ET3
          unfold ruV
          go_wp2_with fail
          go_ret2
          rw [EN3.out, EB3.out, ET3.out]
          have : bad (none : Option (List UInt8)).isNone s2 = ⟨s2.l, true⟩ := by unfold bad; simp
          rw [this]
          exact ⟨rfl, H3.out w3 K3.out⟩
        | some n =>
          rw [ho] at EN3 EB3 ET3
          unfold ruV
          go_wp2_with fail
          go_ret2
          rw [EN3.out, EB3.out, ET3.out]
          have : bad (some n : Option (List UInt8)).isNone s2 = s2 := by unfold bad; simp
          rw [this]
          exact ⟨rfl, Q2.out.1.kept K3.out, Q2.out.2.trans' (K3.out.to _)⟩
      | true =>
        have hv0 := hvd rfl
        clear hvd
        go_wp2_with fail
        refine Calls.mono HN2.out ?_
        rintro e w3 ⟨rfl, k3⟩
        have K3 : Hid (Kept w2 w3) := k3
        obtain ⟨h0, h1, h2⟩ := HF.out w3 k3
        clear k3
        cases ho : uwd v with
        | none =>
          rw [ho] at EN3 EB3 ET3
          unfold ruV
          go_wp2_with fail
          go_ret2
          rw [EN3.out, EB3.out, ET3.out]
          have : bad (none : Option (List UInt8)).isNone s2 = ⟨s2.l, true⟩ := by unfold bad; simp
          rw [this]
          exact ⟨rfl, H3.out w3 K3.out⟩
        | some n =>
          rw [ho] at EN3 EB3 ET3
          unfold ruV
          go_wp2_with fail
          go_ret2
          rw [EN3.out, EB3.out, ET3.out]
          have : bad (some n : Option (List UInt8)).isNone s2 = s2 := by unfold bad; simp
          rw [this]
          exact ⟨rfl, Q2.out.1.kept K3.out, Q2.out.2.trans' (K3.out.to _)⟩
set_option maxRecDepth 100000 in
set_option maxHeartbeats 1600000 in
theorem qone {w : World} {rb : Nat} {T : List UInt8} {s : Rs} (h : Qd w rb T s) (hT : T.length ≤ 1099511627776) (ws : List (List UInt8)) (g c n : Nat) (en : n = ws.length + 1) (hn : n ≤ 100) (hg : ∀ (i : Nat) v, ws[i]? = some v → w.cell? ⟨g, i + 1, none⟩ = some (tx v)) (hne : g ≠ rb) (hgs : g < w.heap.size) : Calls Tryd.prog 37 #[rdp rb, .slice (some ⟨g, 0, none⟩) n c] w fun e w' => e = .returned (.int .i64 (qkN ws s : Nat)) ∧ Qd w' rb T (qkT ws s) ∧ Mv rb w w' := by
  have H1 : Hid _ := qpiece h hT
  have HG : Hid (∀ W, Mv rb w W → ∀ (i : Nat) v, ws[i]? = some v → W.cell? ⟨g, i + 1, none⟩ = some (tx v)) := fun W m i v hv => (m.cell (p := ⟨g, i + 1, none⟩) hgs hne).trans (hg i v hv)
  have EK : Hid (qkN ws s = if plc ws (qpV s) < ws.length then plc ws (qpV s) + 1 else 0) := rfl
  have ET : Hid (qkT ws s = if plc ws (qpV s) < ws.length then qpS s else ⟨(qpS s).l, true⟩) := rfl
  have EN : Hid (n = ws.length + 1) := en
  clear h hg hne en
  generalize qkN ws s = RN at *
  generalize qkT ws s = RT at *
  generalize qpV s = v at *
  generalize qpS s = s2 at *
  go_enter Tryd.func37, Tryd.ntmps37
  go_wp2_with fail
  refine Calls.mono H1.out ?_
  rintro e w1 ⟨rfl, q1, m1⟩
  have Q1 : Hid (Qd w1 rb T s2 ∧ Mv rb w w1) := ⟨q1, m1⟩
  have HG1 : Hid _ := HG.out w1 m1
  have hgs1 : g < w1.heap.size := Nat.lt_of_lt_of_le hgs m1.size
  clear q1 m1 H1 HG hgs
  go_wp2_with fail
  go_loopw [6] (fun i wr => ∃ j : Nat, i = .int .i64 ((j + 1 : Nat) : Int) ∧ j ≤ ws.length ∧ wr = w1 ∧ ∀ t, t < j → ∀ x, ws[t]? = some x → x ≠ v) (fun i _ => n - (intOf i).toNat)
  case atStart => exact ⟨0, rfl, Nat.zero_le _, rfl, fun t h => by omega⟩
  case round =>
    obtain ⟨j, rfl, hj, rfl, hno⟩ := hrel
    have HNO : Hid _ := hno
    clear hno
    by_cases hlt : j < ws.length
    · have e1 : ((j + 1 : Nat) : Int) < (n : Int) := by have := EN.out; omega
      have e1d : decide (((j + 1 : Nat) : Int) < (n : Int)) = true := decide_eq_true e1
      obtain ⟨x, hx⟩ : ∃ x, ws[j]? = some x := ⟨_, List.getElem?_eq_getElem hlt⟩
      have hcx := HG1.out j x hx
      have HX : Hid (ws[j]? = some x) := hx
      clear hx
      obtain ⟨i, ei⟩ : ∃ i, i = j + 1 := ⟨_, rfl⟩
      have EI : Hid (i = j + 1) := ei
      have hi2 : (i : Int) + 1 ≤ 9223372036854775807 := by omega
      rw [← ei] at e1 e1d hcx ⊢
      clear ei
      by_cases hxv : x = v
      · have b1 : (x == v) = true := beq_iff_eq.2 hxv
        have EP : Hid (plc ws v = j) := plc_at HNO.out (by rw [HX.out, hxv])
        clear hxv
        go_wp2_with fail
        go_ret
        rw [EK.out, ET.out, EP.out, if_pos hlt, if_pos hlt, EI.out]
        exact ⟨rfl, Q1.out⟩
      · have b1 : (x == v) = false := beq_eq_false_iff_ne.2 hxv
        have HXV : Hid (x ≠ v) := hxv
        clear hxv
        go_wp2_with fail
        go_roundw
        case rel =>
          refine ⟨j + 1, by have := EI.out; first | (congr 1; omega) | simp [this], hlt, by first | rfl | trivial, fun t ht y hy => ?_⟩
          by_cases e : t < j
          · exact HNO.out t e y hy
          · obtain rfl : t = j := by omega
            rw [HX.out] at hy
            cases hy
            exact HXV.out
        case measure => simp only [intOf]; have := EI.out; omega
    · obtain rfl : j = ws.length := by omega
      have e1 : ¬ ((ws.length + 1 : Nat) : Int) < (n : Int) := by have := EN.out; omega
      have e1d : decide (((ws.length + 1 : Nat) : Int) < (n : Int)) = false := decide_eq_false e1
      have EP : Hid (plc ws v = ws.length) := plc_none fun t x hx => HNO.out t (List.getElem?_eq_some_iff.1 hx).1 x hx
      obtain ⟨i, ei⟩ : ∃ i, i = ws.length + 1 := ⟨_, rfl⟩
      rw [← ei] at e1 e1d ⊢
      clear ei
      obtain ⟨h0, h1, h2⟩ := Q1.out.1.facts
      have H3 : Hid _ := Q1.out.1.put2 true
      go_wp2_with fail
      go_ret
      rw [EK.out, ET.out, EP.out, if_neg (Nat.lt_irrefl _), if_neg (Nat.lt_irrefl _)]
      exact ⟨rfl, H3.out.1, Q1.out.2.trans' H3.out.2⟩
end Go.Proofs.YtfhaiklfbnfdlaaDoor

namespace Go.Proofs.YtfhaiklfbnfdlaaDoor
open Go.RowKit

/-- The document's reader, the result's box, the violation's box, since w. -/
structure Qx (w W : World) (rb : Nat) (T : List UInt8) (s : Rs) (arr : Array Value) : Prop where
  rd : Qd W rb T s
  b2 : W.heap[w.heap.size]? = some (.cells vlz 41 (0, 0))
  b3 : W.heap[w.heap.size + 1]? = some (.cells arr 41 (0, 0))
  mv : Mv rb w W
  lt : rb < w.heap.size
theorem Qd.lt {w : World} {rb : Nat} {T : List UInt8} {s : Rs} (h : Qd w rb T s) : rb < w.heap.size := h.facts.1
theorem Qd.off {w w' : World} {rb : Nat} {T : List UInt8} {s : Rs} {S : Nat → Prop} (h : Qd w rb T s) (k : Same S w w') (hn : ¬ S rb) : Qd w' rb T s := by
  obtain ⟨m, h1, h2, h3⟩ := h.at_
  exact ⟨⟨m, h1, h2, (k.block _ (lt_of_heap h3) hn).trans h3⟩⟩
theorem Qx.start {w : World} {rb : Nat} {T : List UInt8} {s : Rs} (h : Qd w rb T s) : Qx w ((w.alloc (.cells vlz 41 (0, 0))).alloc (.cells vlz 41 (0, 0))) rb T s vlz :=
  have k : Kept w ((w.alloc (.cells vlz 41 (0, 0))).alloc (.cells vlz 41 (0, 0))) := ((Same.refl _ w).alloc _).alloc _
  ⟨h.kept k, (two_new w _ _).1, (two_new w _ _).2, k.to _, h.lt⟩
theorem Qx.on {w W W' : World} {rb : Nat} {T : List UInt8} {s s' : Rs} {arr : Array Value} (h : Qx w W rb T s arr) (r : Qd W' rb T s') (m : Mv rb W W') : Qx w W' rb T s' arr :=
  have lt := h.lt
  ⟨r, (m.block _ (lt_of_heap h.b2) (by omega)).trans h.b2, (m.block _ (lt_of_heap h.b3) (by omega)).trans h.b3, h.mv.trans' m, h.lt⟩
theorem Qx.set {w W : World} {rb : Nat} {T : List UInt8} {s : Rs} {arr : Array Value} (h : Qx w W rb T s arr) (i : Nat) (x : Value) : Qx w (W.setCell ⟨w.heap.size + 1, i, none⟩ x) rb T s (arr.setIfInBounds i x) :=
  have k : Same (fun j => j = w.heap.size + 1) W (W.setCell ⟨w.heap.size + 1, i, none⟩ x) := (Same.refl (fun j => j = w.heap.size + 1) W).setCell _ (.inr rfl) _
  have lt := h.lt
  ⟨h.rd.off k (by omega), (k.block _ (lt_of_heap h.b2) (by omega)).trans h.b2, setCell_at h.b3 i x, Same.trans h.mv k (fun j hj e => by omega), h.lt⟩
theorem Qx.facts {w W : World} {rb : Nat} {T : List UInt8} {s : Rs} {arr : Array Value} (h : Qx w W rb T s arr) : w.heap.size + 1 < W.heap.size ∧ (∀ i, W.cell? ⟨w.heap.size + 1, i, none⟩ = arr[i]?) ∧ ∀ i, W.frozen? ⟨w.heap.size + 1, i, none⟩ = false := ⟨lt_of_heap h.b3, fun i => cell_of h.b3 i, fun i => frozen_of h.b3 i⟩
theorem vTab_get {i : Nat} {v : List UInt8} (h : vWords[i]? = some v) : vTab[i + 1]? = some (tx v) := by
  have hi : i < 10 := (List.getElem?_eq_some_iff.1 h).1
  obtain ⟨v', w1, w2, _⟩ := vWords_at hi
  obtain rfl : v' = v := Option.some.inj (w1.symm.trans h)
  rw [vTab_at (i + 1) (by omega), w2]
set_option maxRecDepth 100000 in
set_option maxHeartbeats 3200000 in
theorem qviol {w : World} {rb : Nat} {T : List UInt8} {s : Rs} (h : Qd w rb T s) (hT : T.length ≤ 1099511627776) : Calls Tryd.prog 39 #[rdp rb] w fun e w' => e = .returned (Vi.vlV (qvR s)) ∧ Qd w' rb T (qvB s) ∧ Mv rb w w' := by
  have HK : Hid (∀ W s g c, Qd W rb T s → (∀ (i : Nat) v, vWords[i]? = some v → W.cell? ⟨g, i + 1, none⟩ = some (tx v)) → g ≠ rb → g < W.heap.size → _) := fun W s g c (q : Qd W rb T s) (hg : ∀ (i : Nat) v, vWords[i]? = some v → W.cell? ⟨g, i + 1, none⟩ = some (tx v)) hne hgs => qone q hT vWords g c 11 rfl (by decide) hg hne hgs
  have HN : Hid (∀ W s (p : List UInt8) d, p.length ≤ 100 → Qd W rb T s → _) := fun W s p d hp (q : Qd W rb T s) => qnumber q hT p (by omega) d
  have HW : Hid (∀ W s (p : List UInt8) d, p.length ≤ 100 → Qd W rb T s → _) := fun W s p d hp (q : Qd W rb T s) => qword q hT p (by omega) d
  have HM : Hid (∀ W s (p : List UInt8), p.length ≤ 100 → Qd W rb T s → _) := fun W s p hp (q : Qd W rb T s) => qmust q hT p (by omega)
  have HT : Hid (∀ W, _) := rkinds_any
  have T0 : Hid _ := Qx.start h
  have EV0 : qvR s = qvR s := rfl
  conv at EV0 => rhs; unfold qvR qv9 qv8 qv7 qv6 qv5 qv4 qv3 qv2 qv1
  have ES0 : qvB s = qvB s := rfl
  conv at ES0 => rhs; unfold qvB qvA qv9 qv8 qv7 qv6 qv5 qv4 qv3 qv2 qv1
  have EV : Hid _ := EV0
  have ES : Hid _ := ES0
  clear EV0 ES0
  generalize qvR s = VR at *
  generalize qvB s = VS at *
  unfold vlz at T0
  clear h
  go_enter Tryd.func39, Tryd.ntmps39
  obtain ⟨Z0, eZ0⟩ : ∃ Z0, Z0 = (w.alloc (.cells #[.int .i64 0, .int .i64 0, .int .i64 0, .int .i64 0, .int .i64 0, .string ⟨#[]⟩, .bool false, .string ⟨#[]⟩, .bool false, .string ⟨#[]⟩, .int .i64 0, .int .i64 0] 41 (0, 0))).alloc (.cells #[.int .i64 0, .int .i64 0, .int .i64 0, .int .i64 0, .int .i64 0, .string ⟨#[]⟩, .bool false, .string ⟨#[]⟩, .bool false, .string ⟨#[]⟩, .int .i64 0, .int .i64 0] 41 (0, 0)) := ⟨_, rfl⟩
  rw [← eZ0] at T0
  go_upto_region 2 with fail
  rw [← eZ0]
  clear eZ0
  go_wp2_with fail
  refine Calls.mono (HT.out _) ?_
  rintro e Z1 ⟨rfl, e1⟩
  have k1 : Kept Z0 Z1 := by rw [e1]; exact (Same.refl _ _).alloc _
  have HG : Hid (∀ (i : Nat) v, vWords[i]? = some v → Z1.cell? ⟨Z0.heap.size, i + 1, none⟩ = some (tx v)) := fun i v hv => by rw [e1, cell_of (heap_new Z0 _)]; exact vTab_get hv
  have HL : Hid (Z0.heap.size ≠ rb ∧ Z0.heap.size < Z1.heap.size) := ⟨by have := T0.out.lt; have := lt_of_heap T0.out.b2; omega, by rw [e1]; exact lt_of_heap (heap_new Z0 _)⟩
  have TA : Hid (Qx w Z1 rb T s _) := T0.out.on (T0.out.rd.kept k1) (k1.to _)
  clear T0 e1 k1 HT
  generalize Z0.heap.size = zg at *
  go_wp2_with fail
  refine Calls.mono (HK.out _ _ _ _ TA.out.rd HG.out HL.out.1 HL.out.2) ?_
  rintro e W0 ⟨rfl, r, m⟩
  have t := TA.out.on r m
  have T1 : Hid _ := (t).set 0 (.int .i64 (((qkN vWords s) : Nat) : Int))
  obtain ⟨y0, y1, y2⟩ := t.facts
  have z0 := y2 0
  have x0 := y1 0
  clear r m t TA y1 y2 HG HL HK
  generalize qkT vWords s = a1 at *
  generalize qkN vWords s = k0 at *
  simp at x0
  go_wp2_with fail
  refine Calls.mono (HN.out _ _ [32, 116, 105, 109, 101, 32] false (by decide) T1.out.rd) ?_
  rintro e W1 ⟨rfl, r, m⟩
  have t := T1.out.on r m
  have T2 : Hid _ := (t).set 1 (.int .i64 (qnN false [32, 116, 105, 109, 101, 32] a1))
  obtain ⟨y0, y1, y2⟩ := t.facts
  have z0 := y2 1
  have x0 := y1 1
  clear r m t T1 y1 y2
  generalize qnT false [32, 116, 105, 109, 101, 32] a1 = a2 at *
  generalize qnN false [32, 116, 105, 109, 101, 32] a1 = k1 at *
  simp at x0
  go_wp2_with fail
  refine Calls.mono (HN.out _ _ [32, 116, 120, 110, 32] false (by decide) T2.out.rd) ?_
  rintro e W2 ⟨rfl, r, m⟩
  have t := T2.out.on r m
  have T3 : Hid _ := (t).set 2 (.int .i64 (qnN false [32, 116, 120, 110, 32] a2))
  obtain ⟨y0, y1, y2⟩ := t.facts
  have z0 := y2 2
  have x0 := y1 2
  clear r m t T2 y1 y2
  generalize qnT false [32, 116, 120, 110, 32] a2 = a3 at *
  generalize qnN false [32, 116, 120, 110, 32] a2 = k2 at *
  simp at x0
  go_wp2_with fail
  refine Calls.mono (HN.out _ _ [32, 111, 112, 32] true (by decide) T3.out.rd) ?_
  rintro e W3 ⟨rfl, r, m⟩
  have t := T3.out.on r m
  have T4 : Hid _ := (t).set 3 (.int .i64 (qnN true [32, 111, 112, 32] a3))
  obtain ⟨y0, y1, y2⟩ := t.facts
  have z0 := y2 3
  have x0 := y1 3
  clear r m t T3 y1 y2
  generalize qnT true [32, 111, 112, 32] a3 = a4 at *
  generalize qnN true [32, 111, 112, 32] a3 = k3 at *
  simp at x0
  go_wp2_with fail
  refine Calls.mono (HN.out _ _ [32, 119, 105, 116, 110, 101, 115, 115, 32] true (by decide) T4.out.rd) ?_
  rintro e W4 ⟨rfl, r, m⟩
  have t := T4.out.on r m
  have T5 : Hid _ := (t).set 4 (.int .i64 (qnN true [32, 119, 105, 116, 110, 101, 115, 115, 32] a4))
  obtain ⟨y0, y1, y2⟩ := t.facts
  have z0 := y2 4
  have x0 := y1 4
  clear r m t T4 y1 y2
  generalize qnT true [32, 119, 105, 116, 110, 101, 115, 115, 32] a4 = a5 at *
  generalize qnN true [32, 119, 105, 116, 110, 101, 115, 115, 32] a4 = k4 at *
  simp at x0
  go_wp2_with fail
  refine Calls.mono (HW.out _ _ [32, 107, 101, 121, 32] false (by decide) T5.out.rd) ?_
  rintro e W5 ⟨rfl, r, m⟩
  have t := T5.out.on r m
  have T6 : Hid _ := (t).set 5 (tx (qwN false [32, 107, 101, 121, 32] a5))
  obtain ⟨y0, y1, y2⟩ := t.facts
  have z0 := y2 5
  have x0 := y1 5
  clear r m t T5 y1 y2
  generalize qwT false [32, 107, 101, 121, 32] a5 = a6 at *
  generalize qwB false [32, 107, 101, 121, 32] a5 = b5 at *
  generalize qwN false [32, 107, 101, 121, 32] a5 = k5 at *
  simp at x0
  go_wp2_with fail
  refine Calls.mono (HW.out _ _ [32, 119, 97, 110, 116, 32] true (by decide) T6.out.rd) ?_
  rintro e W6 ⟨rfl, r, m⟩
  have t := T6.out.on r m
  have T7 : Hid _ := ((t).set 6 (.bool (qwB true [32, 119, 97, 110, 116, 32] a6))).set 7 (tx (qwN true [32, 119, 97, 110, 116, 32] a6))
  obtain ⟨y0, y1, y2⟩ := t.facts
  have z0 := y2 7
  have x0 := y1 7
  have z1 := y2 6
  have x1 := y1 6
  clear r m t T6 y1 y2
  generalize qwT true [32, 119, 97, 110, 116, 32] a6 = a7 at *
  generalize qwB true [32, 119, 97, 110, 116, 32] a6 = b7 at *
  generalize qwN true [32, 119, 97, 110, 116, 32] a6 = k7 at *
  simp at x0
  simp at x1
  go_wp2_with fail
  refine Calls.mono (HW.out _ _ [32, 103, 111, 116, 32] true (by decide) T7.out.rd) ?_
  rintro e W7 ⟨rfl, r, m⟩
  have t := T7.out.on r m
  have T8 : Hid _ := ((t).set 8 (.bool (qwB true [32, 103, 111, 116, 32] a7))).set 9 (tx (qwN true [32, 103, 111, 116, 32] a7))
  obtain ⟨y0, y1, y2⟩ := t.facts
  have z0 := y2 9
  have x0 := y1 9
  have z1 := y2 8
  have x1 := y1 8
  clear r m t T7 y1 y2
  generalize qwT true [32, 103, 111, 116, 32] a7 = a8 at *
  generalize qwB true [32, 103, 111, 116, 32] a7 = b9 at *
  generalize qwN true [32, 103, 111, 116, 32] a7 = k9 at *
  simp at x0
  simp at x1
  go_wp2_with fail
  refine Calls.mono (HN.out _ _ [32, 102, 114, 111, 109, 32] false (by decide) T8.out.rd) ?_
  rintro e W8 ⟨rfl, r, m⟩
  have t := T8.out.on r m
  have T9 : Hid _ := (t).set 10 (.int .i64 (qnN false [32, 102, 114, 111, 109, 32] a8))
  obtain ⟨y0, y1, y2⟩ := t.facts
  have z0 := y2 10
  have x0 := y1 10
  clear r m t T8 y1 y2
  generalize qnT false [32, 102, 114, 111, 109, 32] a8 = a9 at *
  generalize qnN false [32, 102, 114, 111, 109, 32] a8 = k10 at *
  simp at x0
  go_wp2_with fail
  refine Calls.mono (HN.out _ _ [32, 116, 111, 32] false (by decide) T9.out.rd) ?_
  rintro e W9 ⟨rfl, r, m⟩
  have t := T9.out.on r m
  have T10 : Hid _ := (t).set 11 (.int .i64 (qnN false [32, 116, 111, 32] a9))
  obtain ⟨y0, y1, y2⟩ := t.facts
  have z0 := y2 11
  have x0 := y1 11
  clear r m t T9 y1 y2
  generalize qnT false [32, 116, 111, 32] a9 = a10 at *
  generalize qnN false [32, 116, 111, 32] a9 = k11 at *
  simp at x0
  obtain ⟨WY, eY⟩ : ∃ WY, WY = W9.setCell ⟨w.heap.size + 1, 11, none⟩ (.int .i64 k11) := ⟨_, rfl⟩
  have TF : Hid (Qx w WY rb T a10 #[.int .i64 (k0 : Int), .int .i64 k1, .int .i64 k2, .int .i64 k3, .int .i64 k4, tx k5, .bool b7, tx k7, .bool b9, tx k9, .int .i64 k10, .int .i64 k11]) := by
    have h9 := T10.out
    rw [← eY] at h9
    simp at h9
    exact h9
  go_upto_region 18 with fail
  rw [← eY]
  clear eY T10 y0 z0 x0
  go_wp2_with fail
  refine Calls.mono (HM.out _ _ [10] (by decide) TF.out.rd) ?_
  rintro e WZ ⟨rfl, r, m⟩
  have TG : Hid _ := TF.out.on r m
  clear r m TF
  generalize qm [10] a10 = a11 at *
  obtain ⟨d0, d1, d2, d3, d4, d5, d6, d7, d8, d9, d10, d11⟩ := vl_obj TG.out.b3
  have B2 : Hid _ := TG.out.b2
  unfold vlz at B2
  obtain ⟨q0, q1, q2, q3, q4, q5, q6, q7, q8, q9, q10, q11⟩ := vl_obj B2.out
  have g0 := frozen_of B2.out 0
  have g1 := frozen_of B2.out 1
  have g2 := frozen_of B2.out 2
  have g3 := frozen_of B2.out 3
  have g4 := frozen_of B2.out 4
  have g5 := frozen_of B2.out 5
  have g6 := frozen_of B2.out 6
  have g7 := frozen_of B2.out 7
  have g8 := frozen_of B2.out 8
  have g9 := frozen_of B2.out 9
  have g10 := frozen_of B2.out 10
  have g11 := frozen_of B2.out 11
  have lq := lt_of_heap B2.out
  have ld := lt_of_heap TG.out.b3
  go_wp2_with fail
  refine bodyPost_ret (results_c1 (a := 2) (t := 41) rfl rfl (loadVar_vl (put12_at B2.out _ _ _ _ _ _ _ _ _ _ _ _))) rfl ?_
  have k9' := put12_same WZ w.heap.size (.int .i64 (k0 : Int)) (.int .i64 k1) (.int .i64 k2) (.int .i64 k3) (.int .i64 k4) (tx k5) (.bool b7) (tx k7) (.bool b9) (tx k9) (.int .i64 k10) (.int .i64 k11)
  rw [EV.out, ES.out]
  refine ⟨rfl, ?_, ?_⟩
  · exact TG.out.rd.off k9' (by have := TG.out.lt; omega)
  · exact Same.trans TG.out.mv k9' (fun i hi e => by omega)
end Go.Proofs.YtfhaiklfbnfdlaaDoor

namespace Go.Proofs.YtfhaiklfbnfdlaaDoor
open Go.RowKit

def qo0 (s : Rs) : Rs := qm headB s
def qoK (s : Rs) : Nat := if (qo0 s).f = true then 0 else qkN oWords (qo0 s)
def qo1 (s : Rs) : Rs := if (qo0 s).f = true then qo0 s else qkT oWords (qo0 s)
def qoC (s : Rs) : Int := if qoK s ≤ 3 then qnN false [10, 99, 111, 100, 101, 32] (qo1 s) else 0
def qo2 (s : Rs) : Rs := if qoK s ≤ 3 then qnT false [10, 99, 111, 100, 101, 32] (qo1 s) else qo1 s
def qoF (s : Rs) : Int := if qoK s = 2 then qnN false [10, 111, 102, 102, 115, 101, 116, 32] (qo2 s) else 0
def qo3 (s : Rs) : Rs := if qoK s = 2 then qnT false [10, 111, 102, 102, 115, 101, 116, 32] (qo2 s) else qo2 s
def qoN (s : Rs) : Int := if 8 ≤ qoK s then qnN false [10, 116, 120, 110, 115, 32] (qo3 s) else 0
def qo4 (s : Rs) : Rs := if 8 ≤ qoK s then qnT false [10, 116, 120, 110, 115, 32] (qo3 s) else qo3 s
def qoT (s : Rs) : Int := if qoK s = 9 then qnN false [10, 116, 111, 116, 97, 108, 32] (qo4 s) else 0
def qo5 (s : Rs) : Rs := if qoK s = 9 then qnT false [10, 116, 111, 116, 97, 108, 32] (qo4 s) else qo4 s
def qoS (s : Rs) : Int := if qoK s = 9 then qnN false [10, 115, 104, 111, 119, 110, 32] (qo5 s) else 0
def qo6 (s : Rs) : Rs := if qoK s = 9 then qnT false [10, 115, 104, 111, 119, 110, 32] (qo5 s) else qo5 s
def qo7 (s : Rs) : Rs := qm [10] (qo6 s)
def qoL (s : Rs) : List Vi.Vl × Rs := qvs (qoS s).toNat (qoS s).toNat [] (qo7 s)
def qo8 (s : Rs) : Rs := qm footB (qoL s).2
/-- The outcome that the document reads. -/
def qoR (s : Rs) : OuM := ⟨(qoK s : Nat), qoC s, qoF s, qoN s, qoT s, (qoL s).1⟩
/-- What the document's Parse answers. -/
def prsQ (l : List UInt8) : OuM × Int := if (qo8 ⟨l, false⟩).f = true then (ou00, 220) else if (qo8 ⟨l, false⟩).l ≠ [] then (ou00, 220) else if okO (qoR ⟨l, false⟩) = true then (qoR ⟨l, false⟩, 0) else (ou00, 220)
/-- The text that the document writes, piece by piece. -/
def oB5 (o : OuM) : List UInt8 := 10 :: (o.ls.flatMap vioL ++ footB)
def oB4 (o : OuM) : List UInt8 := if hl o.kd = true then numL [10, 116, 111, 116, 97, 108, 32] o.tt ++ (numL [10, 115, 104, 111, 119, 110, 32] (o.ls.length : Int) ++ oB5 o) else oB5 o
def oB3 (o : OuM) : List UInt8 := if ht o.kd = true then numL [10, 116, 120, 110, 115, 32] o.tn ++ oB4 o else oB4 o
def oB2 (o : OuM) : List UInt8 := if ho o.kd = true then numL [10, 111, 102, 102, 115, 101, 116, 32] o.of ++ oB3 o else oB3 o
def oB1 (o : OuM) : List UInt8 := if hc o.kd = true then numL [10, 99, 111, 100, 101, 32] o.cd ++ oB2 o else oB2 o
theorem outR_nest (o : OuM) : outR o = headB ++ (oWord o.kd ++ oB1 o) := by
  unfold outR oB1 oB2 oB3 oB4 oB5
  generalize hc o.kd = b1
  generalize ho o.kd = b2
  generalize ht o.kd = b3
  generalize hl o.kd = b4
  cases b1 <;> cases b2 <;> cases b3 <;> cases b4 <;> simp
theorem halt5 (o : OuM) : Halt pcB (oB5 o) := halt_cons (by decide) _
theorem halt4 (o : OuM) : Halt pcB (oB4 o) := by
  unfold oB4
  split
  · exact halt_num _ (by decide) _ _ _
  · exact halt5 o
theorem halt3 (o : OuM) : Halt pcB (oB3 o) := by
  unfold oB3
  split
  · exact halt_num _ (by decide) _ _ _
  · exact halt4 o
theorem halt2 (o : OuM) : Halt pcB (oB2 o) := by
  unfold oB2
  split
  · exact halt_num _ (by decide) _ _ _
  · exact halt3 o
theorem halt1 (o : OuM) : Halt pcB (oB1 o) := by
  unfold oB1
  split
  · exact halt_num _ (by decide) _ _ _
  · exact halt2 o
theorem oWords_pc {i : Nat} (h : i < 9) : ∃ v, oWords[i]? = some v ∧ oWord ((i + 1 : Nat) : Int) = v ∧ v.all pcB = true := by
  match i, h with
  | 0, _ => exact ⟨_, rfl, rfl, by decide⟩
  | 1, _ => exact ⟨_, rfl, rfl, by decide⟩
  | 2, _ => exact ⟨_, rfl, rfl, by decide⟩
  | 3, _ => exact ⟨_, rfl, rfl, by decide⟩
  | 4, _ => exact ⟨_, rfl, rfl, by decide⟩
  | 5, _ => exact ⟨_, rfl, rfl, by decide⟩
  | 6, _ => exact ⟨_, rfl, rfl, by decide⟩
  | 7, _ => exact ⟨_, rfl, rfl, by decide⟩
  | 8, _ => exact ⟨_, rfl, rfl, by decide⟩
  | n + 9, h => omega
/-- Which kinds have which fields. -/
theorem kinds_of {i : Nat} (h : i < 9) : (hc ((i + 1 : Nat) : Int) = true ↔ i + 1 ≤ 3) ∧ (ho ((i + 1 : Nat) : Int) = true ↔ i + 1 = 2) ∧ (ht ((i + 1 : Nat) : Int) = true ↔ 8 ≤ i + 1) ∧ (hl ((i + 1 : Nat) : Int) = true ↔ i + 1 = 9) := by
  match i, h with
  | 0, _ => decide
  | 1, _ => decide
  | 2, _ => decide
  | 3, _ => decide
  | 4, _ => decide
  | 5, _ => decide
  | 6, _ => decide
  | 7, _ => decide
  | 8, _ => decide
  | n + 9, h => omega
/-- A field that is there or not, written. -/
theorem qn_if {b : Bool} {c : Prop} [Decidable c] (hbc : b = true ↔ c) {n : Int} (h0 : 0 ≤ n) (h1 : n < 1000000000000000) (hz : b = false → n = 0) (p : List UInt8) {r : List UInt8} (hr : Halt pcB r) : (if c then qnN false p ⟨if b = true then numL p n ++ r else r, false⟩ else 0) = n ∧ (if c then qnT false p ⟨if b = true then numL p n ++ r else r, false⟩ else ⟨if b = true then numL p n ++ r else r, false⟩) = ⟨r, false⟩ := by
  cases b with
  | false =>
    have hn : ¬ c := fun h => by have := hbc.2 h; cases this
    rw [if_neg hn, if_neg hn]
    exact ⟨(hz rfl).symm, rfl⟩
  | true =>
    have hy : c := hbc.1 rfl
    rw [if_pos hy, if_pos hy, if_pos rfl]
    obtain ⟨m, rfl⟩ := Int.eq_ofNat_of_zero_le h0
    exact qn_app false (n := m) (by omega) p hr
theorem qo_app {o : OuM} (h : okO o = true) : qoR ⟨outR o, false⟩ = o ∧ qo8 ⟨outR o, false⟩ = ⟨[], false⟩ := by
  obtain ⟨h0, h1, h2, h3, h4, h5, h6, h7, -⟩ := okO_iff h
  obtain ⟨z1, z2, z3, z4⟩ := okO_no h
  clear h
  obtain ⟨kd, cd, of, tn, tt, ls⟩ := o
  simp only at h0 h1 h2 h3 h4 h5 h6 h7 z1 z2 z3 z4
  obtain ⟨i, rfl⟩ : ∃ i : Nat, kd = ((i + 1 : Nat) : Int) := ⟨(kd - 1).toNat, by omega⟩
  obtain ⟨v, w1, w2, w3⟩ := oWords_pc (i := i) (by omega)
  obtain ⟨y1, y2, y3, y4⟩ := kinds_of (i := i) (by omega)
  rw [outR_nest]
  dsimp only
  rw [w2]
  generalize eo : (⟨((i + 1 : Nat) : Int), cd, of, tn, tt, ls⟩ : OuM) = o
  obtain ⟨a0, b0⟩ := qk_app (words_ne oWords_nodup w1) w1 w3 (halt1 o)
  have m0 : qo0 ⟨headB ++ (v ++ oB1 o), false⟩ = ⟨v ++ oB1 o, false⟩ := qm_app _ _
  generalize (⟨headB ++ (v ++ oB1 o), false⟩ : Rs) = s at *
  have k0 : qoK s = i + 1 := by unfold qoK; rw [m0, if_neg Bool.false_ne_true]; exact a0
  have s1 : qo1 s = ⟨oB1 o, false⟩ := by unfold qo1; rw [m0, if_neg Bool.false_ne_true]; exact b0
  clear a0 b0 m0
  have f1 : oB1 o = if hc ((i + 1 : Nat) : Int) = true then numL [10, 99, 111, 100, 101, 32] cd ++ oB2 o else oB2 o := by rw [← eo]; rfl
  have f2 : oB2 o = if ho ((i + 1 : Nat) : Int) = true then numL [10, 111, 102, 102, 115, 101, 116, 32] of ++ oB3 o else oB3 o := by rw [← eo]; rfl
  have f3 : oB3 o = if ht ((i + 1 : Nat) : Int) = true then numL [10, 116, 120, 110, 115, 32] tn ++ oB4 o else oB4 o := by rw [← eo]; rfl
  have f4 : oB4 o = if hl ((i + 1 : Nat) : Int) = true then numL [10, 116, 111, 116, 97, 108, 32] tt ++ (numL [10, 115, 104, 111, 119, 110, 32] (ls.length : Int) ++ oB5 o) else oB5 o := by rw [← eo]; rfl
  have f5 : oB5 o = 10 :: (ls.flatMap vioL ++ footB) := by rw [← eo]; rfl
  have H2 := halt2 o
  have H3 := halt3 o
  have H4 := halt4 o
  have H5 := halt5 o
  obtain ⟨n2, t2⟩ := qn_if y1 h1.1 (by omega) z1 [10, 99, 111, 100, 101, 32] H2
  obtain ⟨n3, t3⟩ := qn_if y2 h2.1 (by omega) z2 [10, 111, 102, 102, 115, 101, 116, 32] H3
  obtain ⟨n4, t4⟩ := qn_if y3 h3.1 (by omega) z3 [10, 116, 120, 110, 115, 32] H4
  rw [← f1] at n2 t2
  rw [← f2] at n3 t3
  rw [← f3] at n4 t4
  have s2 : qo2 s = ⟨oB2 o, false⟩ := by unfold qo2; rw [k0, s1]; exact t2
  have s3 : qo3 s = ⟨oB3 o, false⟩ := by unfold qo3; rw [k0, s2]; exact t3
  have s4 : qo4 s = ⟨oB4 o, false⟩ := by unfold qo4; rw [k0, s3]; exact t4
  have q2 : qoC s = cd := by unfold qoC; rw [k0, s1]; exact n2
  have q3 : qoF s = of := by unfold qoF; rw [k0, s2]; exact n3
  have q4 : qoN s = tn := by unfold qoN; rw [k0, s3]; exact n4
  clear n2 n3 n4 t2 t3 t4 s1 s2 s3 f1 f2 f3
  have q56 : qoT s = tt ∧ qoS s = (ls.length : Int) ∧ qo6 s = ⟨oB5 o, false⟩ := by
    cases hb : hl ((i + 1 : Nat) : Int) with
    | false =>
      obtain ⟨rfl, rfl⟩ := z4 hb
      have hn : ¬ i + 1 = 9 := fun h => by have := y4.2 h; rw [hb] at this; cases this
      rw [hb, if_neg (by decide)] at f4
      unfold qoT qoS qo6 qo5
      rw [k0, if_neg hn, if_neg hn, if_neg hn, if_neg hn, s4, f4]
      exact ⟨rfl, rfl, rfl⟩
    | true =>
      have hy : i + 1 = 9 := y4.1 hb
      obtain ⟨tt, rfl⟩ := Int.eq_ofNat_of_zero_le h4.1
      rw [hb, if_pos rfl] at f4
      obtain ⟨u1, u2⟩ := qn_app false (n := tt) (by omega) [10, 116, 111, 116, 97, 108, 32] (halt_num 10 (by decide) [115, 104, 111, 119, 110, 32] (ls.length : Int) (oB5 o))
      obtain ⟨u3, u4⟩ := qn_app false (n := ls.length) (by omega) [10, 115, 104, 111, 119, 110, 32] H5
      have s5 : qo5 s = ⟨numL [10, 115, 104, 111, 119, 110, 32] (ls.length : Int) ++ oB5 o, false⟩ := by unfold qo5; rw [k0, if_pos hy, s4, f4]; exact u2
      unfold qoT qoS qo6
      rw [k0, if_pos hy, if_pos hy, if_pos hy, s5, s4, f4]
      exact ⟨u1, u3, u4⟩
  obtain ⟨q5, q6, s6⟩ := q56
  have s7 : qo7 s = ⟨ls.flatMap vioL ++ footB, false⟩ := by unfold qo7; rw [s6, f5]; exact qm_app [10] _
  have q7 : qoL s = (ls, ⟨footB, false⟩) := by
    unfold qoL
    rw [q6, s7, Int.toNat_natCast, qvs_app ls ls.length ls.length [] footB h7 (Nat.le_refl _) (by simp)]
    rfl
  unfold qoR qo8
  rw [k0, q2, q3, q4, q5, q7, ← eo]
  refine ⟨rfl, ?_⟩
  have := qm_app footB []
  rw [List.append_nil] at this
  exact this
/-- A field that is there or not, read. -/
theorem qn_if_inv {c : Prop} [Decidable c] {p : List UInt8} {s : Rs} (h : (if c then qnT false p s else s).f = false) : s.f = false ∧ s.l = if c then numL p (if c then qnN false p s else 0) ++ (if c then qnT false p s else s).l else (if c then qnT false p s else s).l := by
  by_cases hc : c
  · simp only [if_pos hc] at h ⊢
    exact qn_num h
  · simp only [if_neg hc] at h ⊢
    exact ⟨h, by first | trivial | rfl⟩
theorem ite_iff {c d : Prop} [Decidable c] [Decidable d] (h : c ↔ d) {α : Type} (a b : α) : (if c then a else b) = if d then a else b := by
  by_cases hc : c
  · rw [if_pos hc, if_pos (h.1 hc)]
  · rw [if_neg hc, if_neg (fun e => hc (h.2 e))]
theorem qo_inv {l : List UInt8} (h : (qo8 ⟨l, false⟩).f = false) (h2 : (qo8 ⟨l, false⟩).l = []) : outR (qoR ⟨l, false⟩) = l := by
  have hl' : (⟨l, false⟩ : Rs).l = l := rfl
  rw [← hl']
  clear hl'
  generalize (⟨l, false⟩ : Rs) = s at *
  obtain ⟨g8, t8⟩ := qm_inv (s := (qoL s).2) h
  have e8 : (qm footB (qoL s).2).l = [] := h2
  rw [e8, List.append_nil] at t8
  obtain ⟨nS, eS⟩ : ∃ n : Nat, qoS s = (n : Int) := by
    unfold qoS
    by_cases c : qoK s = 9
    · obtain ⟨n, e, -⟩ := qnN_nat [10, 115, 104, 111, 119, 110, 32] (qo5 s)
      exact ⟨n, by rw [if_pos c]; exact e⟩
    · exact ⟨0, by rw [if_neg c]; rfl⟩
  have eL : qoL s = qvs nS nS [] (qo7 s) := by unfold qoL; rw [eS, Int.toNat_natCast]
  rw [eL] at g8 t8
  obtain ⟨g7, ls, i2, i3, i4⟩ := qvs_inv nS nS [] (qo7 s) (Nat.zero_le _) (by simp) g8
  rw [List.nil_append] at i2
  have i3' : ls.length = nS := by simpa using i3
  rw [t8] at i4
  obtain ⟨g6, t7⟩ := qm_inv (s := qo6 s) g7
  have els : (qoR s).ls = ls := by show (qoL s).1 = ls; rw [eL]; exact i2
  have p5 : (qo6 s).l = oB5 (qoR s) := by
    unfold oB5
    rw [els, ← i4]
    exact t7
  obtain ⟨g5, t6⟩ := qn_if_inv (c := qoK s = 9) (s := qo5 s) g6
  obtain ⟨g4, t5⟩ := qn_if_inv (c := qoK s = 9) (s := qo4 s) g5
  obtain ⟨g3, t4⟩ := qn_if_inv (c := 8 ≤ qoK s) (s := qo3 s) g4
  obtain ⟨g2, t3⟩ := qn_if_inv (c := qoK s = 2) (s := qo2 s) g3
  obtain ⟨g1, t2⟩ := qn_if_inv (c := qoK s ≤ 3) (s := qo1 s) g2
  have z0 : (qo0 s).f = false := by
    by_cases c : (qo0 s).f = true
    · have : qo1 s = qo0 s := if_pos c
      rw [this, c] at g1
      cases g1
    · simpa using c
  have ek1 : qo1 s = qkT oWords (qo0 s) := if_neg (by rw [z0]; decide)
  have ekK : qoK s = qkN oWords (qo0 s) := if_neg (by rw [z0]; decide)
  rw [ek1] at g1
  obtain ⟨-, i, v, k1, k2, t0⟩ := qk_inv (s := qo0 s) g1
  rw [← ekK] at k1
  rw [← ek1] at t0
  obtain ⟨-, th⟩ := qm_inv (s := s) z0
  have hi : i < 9 := (List.getElem?_eq_some_iff.1 k2).1
  obtain ⟨v', w1, w2, _⟩ := oWords_pc hi
  obtain rfl : v' = v := Option.some.inj (w1.symm.trans k2)
  obtain ⟨y1, y2, y3, y4⟩ := kinds_of hi
  have ek : (qoR s).kd = ((i + 1 : Nat) : Int) := by show ((qoK s : Nat) : Int) = _; rw [k1]
  rw [← k1] at y1 y2 y3 y4
  have p4 : (qo4 s).l = oB4 (qoR s) := by
    unfold oB4
    rw [ek, ← k1, ite_iff y4, els, ← p5]
    by_cases c : qoK s = 9
    · simp only [if_pos c] at t5 t6 ⊢
      have e5 : (qoR s).tt = qnN false [10, 116, 111, 116, 97, 108, 32] (qo4 s) := if_pos c
      have e6 : (ls.length : Int) = qnN false [10, 115, 104, 111, 119, 110, 32] (qo5 s) := by
        rw [i3', ← eS]
        exact if_pos c
      have e7 : qo5 s = qnT false [10, 116, 111, 116, 97, 108, 32] (qo4 s) := if_pos c
      have e8 : qo6 s = qnT false [10, 115, 104, 111, 119, 110, 32] (qo5 s) := if_pos c
      rw [e5, e6, e8, ← t6, t5, e7]
    · have e7 : qo5 s = qo4 s := if_neg c
      have e8 : qo6 s = qo5 s := if_neg c
      rw [if_neg c, e8, e7]
  have p3 : (qo3 s).l = oB3 (qoR s) := by
    unfold oB3
    rw [ek, ← k1, ite_iff y3, ← p4]
    exact t4
  have p2 : (qo2 s).l = oB2 (qoR s) := by
    unfold oB2
    rw [ek, ← k1, ite_iff y2, ← p3]
    exact t3
  have p1 : (qo1 s).l = oB1 (qoR s) := by
    unfold oB1
    rw [ek, ← k1, ite_iff y1, ← p2]
    exact t2
  have th' : s.l = headB ++ (qo0 s).l := th
  rw [outR_nest, ek, w2, ← p1, ← t0, ← th']
/-- The document's Parse answers what the code's answers. -/
theorem prsQ_eq (l : List UInt8) : prsQ l = prsT l := by
  by_cases h : (prsT l).2 = 0
  · obtain ⟨h1, h2⟩ := prs_inv h
    have e : prsT l = ((prsT l).1, 0) := by rw [← h]
    have h3 : l = outR (prsT l).1 := by rw [outR_eq]; exact h2.symm
    rw [e]
    generalize (prsT l).1 = o at *
    subst h3
    obtain ⟨a, b⟩ := qo_app h1
    unfold prsQ
    rw [a, b, if_neg (show ¬ false = true by decide), if_neg (by simp), if_pos h1]
  · have e := prs_no h
    unfold prsQ
    by_cases c1 : (qo8 ⟨l, false⟩).f = true
    · rw [if_pos c1, e]
    · rw [if_neg c1]
      by_cases c2 : (qo8 ⟨l, false⟩).l ≠ []
      · rw [if_pos c2, e]
      · rw [if_neg c2]
        by_cases c3 : okO (qoR ⟨l, false⟩) = true
        · have h1 := qo_inv (l := l) (by simpa using c1) (by simpa using c2)
          rw [outR_eq] at h1
          have h2 := prs_app c3
          rw [h1] at h2
          exact absurd (by rw [h2]) h
        · rw [if_neg c3, e]
end Go.Proofs.YtfhaiklfbnfdlaaDoor

namespace Go.Proofs.YtfhaiklfbnfdlaaDoor
open Go.RowKit

theorem results_ct22 {fn : Func} {a t u : Nat} {P : Program} {w : World} {tmps : Array Value} {ad : Addr} {v : Value} (h : fn.results = #[.cell a t, .tmp u]) (ha : tmps.getD a undef = .pointer (some ad)) (hv : (loadVar t ad).run P w = .ok v w) : (results fn tmps).run P w = .ok (.tuple #[v, tmps.getD u undef]) w := by
  have ha' : tmps[a]?.getD undef = .pointer (some ad) := by simpa using ha
  simp [results, h, ha', asAddr, hv]
/-- The result's box, the reader, the outcome's box, since w. -/
structure Px (w W : World) (T : List UInt8) (s : Rs) (arr : Array Value) (v : Value) (acc : List Vi.Vl) : Prop where
  rd : Qd W (w.heap.size + 1) T s
  b2 : W.heap[w.heap.size]? = some (.cells ouz 25 (0, 0))
  b3 : W.heap[w.heap.size + 2]? = some (.cells arr 25 (0, 0))
  own : OwV (w.heap.size + 3) W v acc
  kp : Kept w W
theorem Px.on {w W W' : World} {T : List UInt8} {s s' : Rs} {arr : Array Value} {v : Value} {acc : List Vi.Vl} (h : Px w W T s arr v acc) (r : Qd W' (w.heap.size + 1) T s') (m : Mv (w.heap.size + 1) W W') : Px w W' T s' arr v acc :=
  ⟨r, (m.block _ (lt_of_heap h.b2) (by omega)).trans h.b2, (m.block _ (lt_of_heap h.b3) (by omega)).trans h.b3, h.own.kept m (fun b hb e => by have := (h.own.block hb).1; omega), Same.trans h.kp m (fun i hi e => by omega)⟩
theorem Px.keep {w W W' : World} {T : List UInt8} {s : Rs} {arr : Array Value} {v : Value} {acc : List Vi.Vl} (h : Px w W T s arr v acc) (k : Kept W W') : Px w W' T s arr v acc := h.on (h.rd.kept k) (k.to _)
theorem Px.set {w W : World} {T : List UInt8} {s : Rs} {arr : Array Value} {v : Value} {acc : List Vi.Vl} (h : Px w W T s arr v acc) (i : Nat) (x : Value) : Px w (W.setCell ⟨w.heap.size + 2, i, none⟩ x) T s (arr.setIfInBounds i x) v acc :=
  have k : Same (fun j => j = w.heap.size + 2) W (W.setCell ⟨w.heap.size + 2, i, none⟩ x) := (Same.refl (fun j => j = w.heap.size + 2) W).setCell _ (.inr rfl) _
  ⟨h.rd.off k (by omega), (k.block _ (lt_of_heap h.b2) (by omega)).trans h.b2, setCell_at h.b3 i x, h.own.kept k (fun b hb e => by have := (h.own.block hb).1; omega), Same.trans h.kp k (fun j hj e => by omega)⟩
theorem Px.grow {w W W' : World} {T : List UInt8} {s : Rs} {arr : Array Value} {v v' : Value} {acc acc' : List Vi.Vl} (h : Px w W T s arr v acc) (o : OwV (w.heap.size + 3) W' v' acc') (k : Same (fun j => v.ownBlock = some j) W W') : Px w W' T s arr v' acc' :=
  have n : ∀ j, v.ownBlock = some j → w.heap.size + 3 ≤ j := fun j hj => (h.own.block hj).1
  ⟨h.rd.off k (fun e => by have := n _ e; omega), (k.block _ (lt_of_heap h.b2) (fun e => by have := n _ e; omega)).trans h.b2, (k.block _ (lt_of_heap h.b3) (fun e => by have := n _ e; omega)).trans h.b3, o, Same.trans h.kp k (fun i hi e => by have := n _ e; omega)⟩
theorem Px.facts {w W : World} {T : List UInt8} {s : Rs} {arr : Array Value} {v : Value} {acc : List Vi.Vl} (h : Px w W T s arr v acc) : w.heap.size + 2 < W.heap.size ∧ (∀ i, W.cell? ⟨w.heap.size + 2, i, none⟩ = arr[i]?) ∧ ∀ i, W.frozen? ⟨w.heap.size + 2, i, none⟩ = false := ⟨lt_of_heap h.b3, fun i => cell_of h.b3 i, fun i => frozen_of h.b3 i⟩
theorem oTab_get {i : Nat} {v : List UInt8} (h : oWords[i]? = some v) : oTab[i + 1]? = some (tx v) := by
  have hi : i < 9 := (List.getElem?_eq_some_iff.1 h).1
  obtain ⟨v', w1, w2, _⟩ := oWords_at hi
  obtain rfl : v' = v := Option.some.inj (w1.symm.trans h)
  rw [oTab_at (i + 1) (by omega), w2]
/-- Reading lines makes the text shorter. -/
theorem qv_short {s : Rs} (h : (qvB s).f = false) : (qvB s).l.length + 2 ≤ s.l.length := by
  obtain ⟨-, e⟩ := qv_inv h
  have h1 : 2 ≤ (vioL (qvR s)).length := by
    unfold vioL numL
    simp only [List.length_append, List.length_cons, List.length_nil]
    omega
  rw [e, List.length_append]
  omega
set_option maxRecDepth 100000 in
set_option maxHeartbeats 3200000 in
theorem rparse22 (l : List UInt8) (w : World) (hl : l.length ≤ 1048576) : Calls Tryd.prog 17 #[tx l] w fun e w' => ∃ a c, e = .returned (.tuple #[ouV (prsQ l).1 (.slice a (prsQ l).1.ls.length c), .int .i64 (prsQ l).2]) ∧ OwV w.heap.size w' (.slice a (prsQ l).1.ls.length c) (prsQ l).1.ls ∧ Kept w w' := by
  have HM : Hid (∀ W rb s (p : List UInt8), p.length ≤ 100 → Qd W rb l s → _) := fun W rb s p hp (q : Qd W rb l s) => qmust q (by omega) p (by omega)
  have HK : Hid (∀ W rb s g c, Qd W rb l s → (∀ (i : Nat) v, oWords[i]? = some v → W.cell? ⟨g, i + 1, none⟩ = some (tx v)) → g ≠ rb → g < W.heap.size → _) := fun W rb s g c (q : Qd W rb l s) (hg : ∀ (i : Nat) v, oWords[i]? = some v → W.cell? ⟨g, i + 1, none⟩ = some (tx v)) hne hgs => qone q (by omega) oWords g c 10 rfl (by decide) hg hne hgs
  have HN : Hid (∀ W rb s (p : List UInt8), p.length ≤ 100 → Qd W rb l s → _) := fun W rb s p hp (q : Qd W rb l s) => qnumber q (by omega) p (by omega) false
  have HVI : Hid (∀ W rb s, Qd W rb l s → _) := fun W rb s (q : Qd W rb l s) => qviol q (by omega)
  have HTB : Hid (∀ W, _) := routcomes_any
  have HVA : Hid (∀ (W : World) (o : OuM) a cap, Vi.At Vi.vl1 12 W a o.ls → o.ls.length ≤ 1172812402961 → _) := fun W o a cap h hlen => rvalid22 W o a cap h hlen
  have EP : Hid (prsQ l = if (qo8 ⟨l, false⟩).f = true then (ou00, 220) else if (qo8 ⟨l, false⟩).l ≠ [] then (ou00, 220) else if okO (qoR ⟨l, false⟩) = true then (qoR ⟨l, false⟩, 0) else (ou00, 220)) := rfl
  have EV : Hid (qoR ⟨l, false⟩ = ⟨(qoK ⟨l, false⟩ : Nat), qoC ⟨l, false⟩, qoF ⟨l, false⟩, qoN ⟨l, false⟩, qoT ⟨l, false⟩, (qoL ⟨l, false⟩).1⟩) := rfl
  have Q0 : Hid (qo0 ⟨l, false⟩ = qm headB ⟨l, false⟩) := rfl
  have QK : Hid (qoK ⟨l, false⟩ = if (qo0 ⟨l, false⟩).f = true then 0 else qkN oWords (qo0 ⟨l, false⟩)) := rfl
  have Q1 : Hid (qo1 ⟨l, false⟩ = if (qo0 ⟨l, false⟩).f = true then qo0 ⟨l, false⟩ else qkT oWords (qo0 ⟨l, false⟩)) := rfl
  have N2 : Hid (qoC ⟨l, false⟩ = if qoK ⟨l, false⟩ ≤ 3 then qnN false [10, 99, 111, 100, 101, 32] (qo1 ⟨l, false⟩) else 0) := rfl
  have Q2 : Hid (qo2 ⟨l, false⟩ = if qoK ⟨l, false⟩ ≤ 3 then qnT false [10, 99, 111, 100, 101, 32] (qo1 ⟨l, false⟩) else qo1 ⟨l, false⟩) := rfl
  have N3 : Hid (qoF ⟨l, false⟩ = if qoK ⟨l, false⟩ = 2 then qnN false [10, 111, 102, 102, 115, 101, 116, 32] (qo2 ⟨l, false⟩) else 0) := rfl
  have Q3 : Hid (qo3 ⟨l, false⟩ = if qoK ⟨l, false⟩ = 2 then qnT false [10, 111, 102, 102, 115, 101, 116, 32] (qo2 ⟨l, false⟩) else qo2 ⟨l, false⟩) := rfl
  have N4 : Hid (qoN ⟨l, false⟩ = if 8 ≤ qoK ⟨l, false⟩ then qnN false [10, 116, 120, 110, 115, 32] (qo3 ⟨l, false⟩) else 0) := rfl
  have Q4 : Hid (qo4 ⟨l, false⟩ = if 8 ≤ qoK ⟨l, false⟩ then qnT false [10, 116, 120, 110, 115, 32] (qo3 ⟨l, false⟩) else qo3 ⟨l, false⟩) := rfl
  have N5 : Hid (qoT ⟨l, false⟩ = if qoK ⟨l, false⟩ = 9 then qnN false [10, 116, 111, 116, 97, 108, 32] (qo4 ⟨l, false⟩) else 0) := rfl
  have Q5 : Hid (qo5 ⟨l, false⟩ = if qoK ⟨l, false⟩ = 9 then qnT false [10, 116, 111, 116, 97, 108, 32] (qo4 ⟨l, false⟩) else qo4 ⟨l, false⟩) := rfl
  have N6 : Hid (qoS ⟨l, false⟩ = if qoK ⟨l, false⟩ = 9 then qnN false [10, 115, 104, 111, 119, 110, 32] (qo5 ⟨l, false⟩) else 0) := rfl
  have Q6 : Hid (qo6 ⟨l, false⟩ = if qoK ⟨l, false⟩ = 9 then qnT false [10, 115, 104, 111, 119, 110, 32] (qo5 ⟨l, false⟩) else qo5 ⟨l, false⟩) := rfl
  have Q7 : Hid (qo7 ⟨l, false⟩ = qm [10] (qo6 ⟨l, false⟩)) := rfl
  have QL : Hid (qoL ⟨l, false⟩ = qvs (qoS ⟨l, false⟩).toNat (qoS ⟨l, false⟩).toNat [] (qo7 ⟨l, false⟩)) := rfl
  have Q8 : Hid (qo8 ⟨l, false⟩ = qm footB (qoL ⟨l, false⟩).2) := rfl
  have BS : Hid (∃ n : Nat, qoS ⟨l, false⟩ = (n : Int) ∧ n ≤ 999999999999999) := by
    show ∃ n : Nat, _
    unfold qoS
    by_cases c : qoK ⟨l, false⟩ = 9
    · rw [if_pos c]; exact qnN_nat _ _
    · rw [if_neg c]; exact ⟨0, rfl, by decide⟩
  generalize prsQ l = PQ at *
  generalize qoR ⟨l, false⟩ = VR at *
  generalize qo8 ⟨l, false⟩ = a8 at *
  generalize qoL ⟨l, false⟩ = LL at *
  generalize qo7 ⟨l, false⟩ = a7 at *
  generalize qo6 ⟨l, false⟩ = a6 at *
  generalize qoS ⟨l, false⟩ = sh at *
  generalize qo5 ⟨l, false⟩ = a5 at *
  generalize qoT ⟨l, false⟩ = tt at *
  generalize qo4 ⟨l, false⟩ = a4 at *
  generalize qoN ⟨l, false⟩ = tn at *
  generalize qo3 ⟨l, false⟩ = a3 at *
  generalize qoF ⟨l, false⟩ = of at *
  generalize qo2 ⟨l, false⟩ = a2 at *
  generalize qoC ⟨l, false⟩ = cd at *
  generalize qo1 ⟨l, false⟩ = a1 at *
  generalize qoK ⟨l, false⟩ = kd at *
  generalize qo0 ⟨l, false⟩ = a0 at *
  obtain ⟨sh, rfl, hsh⟩ := BS.out
  rw [Int.toNat_natCast] at QL
  obtain ⟨Z0, eZ0⟩ : ∃ Z0, Z0 = ((w.alloc (.cells ouz 25 (0, 0))).alloc (.cells #[tx l, .int .i64 0, .bool false] 61 (0, 0))).alloc (.cells ouz 25 (0, 0)) := ⟨_, rfl⟩
  have T0 : Hid (Px w Z0 l ⟨l, false⟩ ouz (.slice none 0 0) []) := by
    have k1 : Kept w (w.alloc (.cells ouz 25 (0, 0))) := (Same.refl _ w).alloc _
    have k2 : Kept ((w.alloc (.cells ouz 25 (0, 0))).alloc (.cells #[tx l, .int .i64 0, .bool false] 61 (0, 0))) Z0 := by rw [eZ0]; exact (Same.refl _ _).alloc _
    have h1 := two_new w (.cells ouz 25 (0, 0)) (.cells #[tx l, .int .i64 0, .bool false] 61 (0, 0))
    have h2 : Z0.heap[w.heap.size + 2]? = some (.cells ouz 25 (0, 0)) := by
      have := heap_new ((w.alloc (.cells ouz 25 (0, 0))).alloc (.cells #[tx l, .int .i64 0, .bool false] 61 (0, 0))) (.cells ouz 25 (0, 0))
      rw [← eZ0] at this
      simpa using this
    exact ⟨⟨⟨0, Nat.zero_le _, rfl, (k2.block _ (lt_of_heap h1.2) (fun e => e)).trans h1.2⟩⟩, (k2.block _ (lt_of_heap h1.1) (fun e => e)).trans h1.1, h2, Vi.Own.nil _ _ _ _ _, (k1.alloc _).trans' k2⟩
  unfold ouz at T0 eZ0
  go_enter Tryd.func17, Tryd.ntmps17
  go_upto_region 3 with fail
  rw [← eZ0]
  clear eZ0
  go_wp2_with fail
  refine Calls.mono (HM.out _ _ _ headB (by decide) T0.out.rd) ?_
  rintro e W0 ⟨rfl, r, m⟩
  rw [← Q0.out] at r
  have T1 : Hid (Px w W0 l a0 _ _ _) := T0.out.on r m
  clear r m T0 Q0
  go_wp2_with fail
  refine Calls.mono (HTB.out _) ?_
  rintro e W1 ⟨rfl, e1⟩
  have k1 : Kept W0 W1 := by rw [e1]; exact (Same.refl _ _).alloc _
  have HG : Hid (∀ (i : Nat) v, oWords[i]? = some v → W1.cell? ⟨W0.heap.size, i + 1, none⟩ = some (tx v)) := fun i v hv => by rw [e1, cell_of (heap_new W0 _)]; exact oTab_get hv
  have HL : Hid (W0.heap.size ≠ w.heap.size + 1 ∧ W0.heap.size < W1.heap.size) := ⟨by have := lt_of_heap T1.out.b3; omega, by rw [e1]; exact lt_of_heap (heap_new W0 _)⟩
  have T2 : Hid (Px w W1 l a0 _ _ _) := T1.out.keep k1
  clear T1 e1 k1 HTB
  generalize W0.heap.size = tg at *
  obtain ⟨p0, f0⟩ := a0
  dsimp only at QK Q1
  obtain ⟨h0, h1, h2⟩ := T2.out.rd.facts
  go_upto_if 21 with fail
  go_cut [] (fun wx => Px w wx l a1 #[.int .i64 (kd : Int), .int .i64 0, .int .i64 0, .int .i64 0, .int .i64 0, .slice none 0 0] (.slice none 0 0) [])
  case first =>
    cases f0 with
    | true =>
      have e1 : a1 = ⟨p0, true⟩ := Q1.out
      have e2 : kd = 0 := QK.out
      go_wp2_with fail
      go_meet
      rw [e1, e2]
      exact T2.out
    | false =>
      have e1 : a1 = qkT oWords ⟨p0, false⟩ := Q1.out
      have e2 : kd = qkN oWords ⟨p0, false⟩ := QK.out
      go_wp2_with fail
      refine Calls.mono (HK.out _ _ _ _ _ T2.out.rd HG.out HL.out.1 HL.out.2) ?_
      rintro e wy ⟨rfl, r, m⟩
      rw [← e1] at r
      rw [← e2]
      have t := T2.out.on r m
      have T9 : Hid (Px w (wy.setCell ⟨w.heap.size + 2, 0, none⟩ (.int .i64 (kd : Int))) l a1 #[.int .i64 (kd : Int), .int .i64 0, .int .i64 0, .int .i64 0, .int .i64 0, .slice none 0 0] (.slice none 0 0) []) := by
        have h9 := t.set 0 (.int .i64 (kd : Int))
        simp only [List.setIfInBounds_toArray, List.set_cons_zero] at h9
        exact h9
      obtain ⟨y0, y1, y2⟩ := t.facts
      have z0 := y2 0
      have x0 := y1 0
      clear r m t y1 y2 h0 h1 h2
      simp at x0
      go_wp2_with fail
      go_meet
      first | exact T9.out | (rw [← e2]; exact T9.out)
  case rest =>
    have T3 : Hid (Px w wc l a1 #[.int .i64 (kd : Int), .int .i64 0, .int .i64 0, .int .i64 0, .int .i64 0, .slice none 0 0] (.slice none 0 0) []) := hcut
    clear hcut T2 HG HL HK QK Q1 h0 h1 h2
    obtain ⟨d0, d1, d2, d3, d4, d5⟩ := ou_obj T3.out.b3
    have ld := lt_of_heap T3.out.b3
    go_upto_if 28 with fail
    go_cut [] (fun wx => Px w wx l a2 #[.int .i64 (kd : Int), .int .i64 cd, .int .i64 0, .int .i64 0, .int .i64 0, .slice none 0 0] (.slice none 0 0) [])
    case first =>
      by_cases c : kd ≤ 3
      · have e1 : a2 = qnT false [10, 99, 111, 100, 101, 32] a1 := Q2.out.trans (if_pos c)
        have e2 : cd = qnN false [10, 99, 111, 100, 101, 32] a1 := N2.out.trans (if_pos c)
        have g1 : (kd : Int) ≤ 3 := by omega
        have g2 : decide ((kd : Int) ≤ 3) = true := decide_eq_true g1
        clear c
        go_wp2_with fail
        refine Calls.mono (HN.out _ _ _ [10, 99, 111, 100, 101, 32] (by decide) T3.out.rd) ?_
        rintro e wy ⟨rfl, r, m⟩
        rw [← e1] at r
        rw [← e2]
        have t := T3.out.on r m
        have T9 : Hid (Px w (wy.setCell ⟨w.heap.size + 2, 1, none⟩ (.int .i64 cd)) l a2 #[.int .i64 (kd : Int), .int .i64 cd, .int .i64 0, .int .i64 0, .int .i64 0, .slice none 0 0] (.slice none 0 0) []) := by
          have h9 := t.set 1 (.int .i64 cd)
          simp only [List.setIfInBounds_toArray, List.set_cons_zero, List.set_cons_succ] at h9
          exact h9
        obtain ⟨y0, y1, y2⟩ := t.facts
        have z0 := y2 1
        have x0 := y1 1
        clear r m t y1 y2 d0 d1 d2 d3 d4 d5 ld
        simp at x0
        go_wp2_with fail
        go_meet
        first | exact T9.out | (rw [← e2]; exact T9.out)
      · have e1 : a2 = a1 := Q2.out.trans (if_neg c)
        have e2 : cd = 0 := N2.out.trans (if_neg c)
        have g1 : ¬ (kd : Int) ≤ 3 := by omega
        have g2 : decide ((kd : Int) ≤ 3) = false := decide_eq_false g1
        clear c
        go_wp2_with fail
        go_meet
        rw [e1, e2]
        exact T3.out
    case rest =>
      have T4 : Hid (Px w wc l a2 #[.int .i64 (kd : Int), .int .i64 cd, .int .i64 0, .int .i64 0, .int .i64 0, .slice none 0 0] (.slice none 0 0) []) := hcut
      clear hcut T3 Q2 N2
      obtain ⟨d0, d1, d2, d3, d4, d5⟩ := ou_obj T4.out.b3
      have ld := lt_of_heap T4.out.b3
      go_upto_if 35 with fail
      go_cut [] (fun wx => Px w wx l a3 #[.int .i64 (kd : Int), .int .i64 cd, .int .i64 of, .int .i64 0, .int .i64 0, .slice none 0 0] (.slice none 0 0) [])
      case first =>
        by_cases c : kd = 2
        · have e1 : a3 = qnT false [10, 111, 102, 102, 115, 101, 116, 32] a2 := Q3.out.trans (if_pos c)
          have e2 : of = qnN false [10, 111, 102, 102, 115, 101, 116, 32] a2 := N3.out.trans (if_pos c)
          have g1 : (kd : Int) = 2 := by omega
          have g2 : ((kd : Int) == 2) = true := beq_iff_eq.2 g1
          clear c
          go_wp2_with fail
          refine Calls.mono (HN.out _ _ _ [10, 111, 102, 102, 115, 101, 116, 32] (by decide) T4.out.rd) ?_
          rintro e wy ⟨rfl, r, m⟩
          rw [← e1] at r
          rw [← e2]
          have t := T4.out.on r m
          have T9 : Hid (Px w (wy.setCell ⟨w.heap.size + 2, 2, none⟩ (.int .i64 of)) l a3 #[.int .i64 (kd : Int), .int .i64 cd, .int .i64 of, .int .i64 0, .int .i64 0, .slice none 0 0] (.slice none 0 0) []) := by
            have h9 := t.set 2 (.int .i64 of)
            simp only [List.setIfInBounds_toArray, List.set_cons_zero, List.set_cons_succ] at h9
            exact h9
          obtain ⟨y0, y1, y2⟩ := t.facts
          have z0 := y2 2
          have x0 := y1 2
          clear r m t y1 y2 d0 d1 d2 d3 d4 d5 ld
          simp at x0
          go_wp2_with fail
          go_meet
          first | exact T9.out | (rw [← e2]; exact T9.out)
        · have e1 : a3 = a2 := Q3.out.trans (if_neg c)
          have e2 : of = 0 := N3.out.trans (if_neg c)
          have g1 : ¬ (kd : Int) = 2 := by omega
          have g2 : ((kd : Int) == 2) = false := beq_eq_false_iff_ne.2 g1
          clear c
          go_wp2_with fail
          go_meet
          rw [e1, e2]
          exact T4.out
      case rest =>
        have T5 : Hid (Px w wc l a3 #[.int .i64 (kd : Int), .int .i64 cd, .int .i64 of, .int .i64 0, .int .i64 0, .slice none 0 0] (.slice none 0 0) []) := hcut
        clear hcut T4 Q3 N3
        obtain ⟨d0, d1, d2, d3, d4, d5⟩ := ou_obj T5.out.b3
        have ld := lt_of_heap T5.out.b3
        go_upto_if 41 with fail
        go_cut [] (fun wx => Px w wx l a4 #[.int .i64 (kd : Int), .int .i64 cd, .int .i64 of, .int .i64 tn, .int .i64 0, .slice none 0 0] (.slice none 0 0) [])
        case first =>
          by_cases c : 8 ≤ kd
          · have e1 : a4 = qnT false [10, 116, 120, 110, 115, 32] a3 := Q4.out.trans (if_pos c)
            have e2 : tn = qnN false [10, 116, 120, 110, 115, 32] a3 := N4.out.trans (if_pos c)
            have g1 : (kd : Int) ≥ 8 := by omega
            have g2 : decide ((kd : Int) ≥ 8) = true := decide_eq_true g1
            have g3 : (8 : Int) ≤ (kd : Int) := by omega
            clear c
            go_wp2_with fail
            refine Calls.mono (HN.out _ _ _ [10, 116, 120, 110, 115, 32] (by decide) T5.out.rd) ?_
            rintro e wy ⟨rfl, r, m⟩
            rw [← e1] at r
            rw [← e2]
            have t := T5.out.on r m
            have T9 : Hid (Px w (wy.setCell ⟨w.heap.size + 2, 3, none⟩ (.int .i64 tn)) l a4 #[.int .i64 (kd : Int), .int .i64 cd, .int .i64 of, .int .i64 tn, .int .i64 0, .slice none 0 0] (.slice none 0 0) []) := by
              have h9 := t.set 3 (.int .i64 tn)
              simp only [List.setIfInBounds_toArray, List.set_cons_zero, List.set_cons_succ] at h9
              exact h9
            obtain ⟨y0, y1, y2⟩ := t.facts
            have z0 := y2 3
            have x0 := y1 3
            clear r m t y1 y2 d0 d1 d2 d3 d4 d5 ld
            simp at x0
            go_wp2_with fail
            go_meet
            first | exact T9.out | (rw [← e2]; exact T9.out)
          · have e1 : a4 = a3 := Q4.out.trans (if_neg c)
            have e2 : tn = 0 := N4.out.trans (if_neg c)
            have g1 : ¬ (kd : Int) ≥ 8 := by omega
            have g2 : decide ((kd : Int) ≥ 8) = false := decide_eq_false g1
            have g3 : ¬ (8 : Int) ≤ (kd : Int) := by omega
            clear c
            go_wp2_with fail
            go_meet
            rw [e1, e2]
            exact T5.out
        case rest =>
          have T6 : Hid (Px w wc l a4 #[.int .i64 (kd : Int), .int .i64 cd, .int .i64 of, .int .i64 tn, .int .i64 0, .slice none 0 0] (.slice none 0 0) []) := hcut
          clear hcut T5 Q4 N4
          obtain ⟨d0, d1, d2, d3, d4, d5⟩ := ou_obj T6.out.b3
          have ld := lt_of_heap T6.out.b3
          go_upto_if 47 with fail
          go_cut [8] (fun v8 wx => v8 = .int .i64 (sh : Int) ∧ Px w wx l a6 #[.int .i64 (kd : Int), .int .i64 cd, .int .i64 of, .int .i64 tn, .int .i64 tt, .slice none 0 0] (.slice none 0 0) [])
          case first =>
            by_cases c : kd = 9
            · have e1 : a5 = qnT false [10, 116, 111, 116, 97, 108, 32] a4 := Q5.out.trans (if_pos c)
              have e2 : tt = qnN false [10, 116, 111, 116, 97, 108, 32] a4 := N5.out.trans (if_pos c)
              have e3 : Hid (a6 = qnT false [10, 115, 104, 111, 119, 110, 32] a5) := Q6.out.trans (if_pos c)
              have e4 : Hid ((sh : Int) = qnN false [10, 115, 104, 111, 119, 110, 32] a5) := N6.out.trans (if_pos c)
              have g1 : (kd : Int) = 9 := by omega
              have g2 : ((kd : Int) == 9) = true := beq_iff_eq.2 g1
              clear c
              go_wp2_with fail
              refine Calls.mono (HN.out _ _ _ [10, 116, 111, 116, 97, 108, 32] (by decide) T6.out.rd) ?_
              rintro e wy ⟨rfl, r, m⟩
              rw [← e1] at r
              rw [← e2]
              clear e1 e2
              have t := T6.out.on r m
              have T9 : Hid (Px w (wy.setCell ⟨w.heap.size + 2, 4, none⟩ (.int .i64 tt)) l a5 #[.int .i64 (kd : Int), .int .i64 cd, .int .i64 of, .int .i64 tn, .int .i64 tt, .slice none 0 0] (.slice none 0 0) []) := by
                have h9 := t.set 4 (.int .i64 tt)
                simp only [List.setIfInBounds_toArray, List.set_cons_zero, List.set_cons_succ] at h9
                exact h9
              obtain ⟨y0, y1, y2⟩ := t.facts
              have z0 := y2 4
              have x0 := y1 4
              clear r m t y1 y2 d0 d1 d2 d3 d4 d5 ld
              simp at x0
              go_wp2_with fail
              refine Calls.mono (HN.out _ _ _ [10, 115, 104, 111, 119, 110, 32] (by decide) T9.out.rd) ?_
              rintro e wz ⟨rfl, r, m⟩
              rw [← show a6 = _ from e3.out] at r
              rw [← show (sh : Int) = _ from e4.out]
              have T10 : Hid (Px w wz l a6 #[.int .i64 (kd : Int), .int .i64 cd, .int .i64 of, .int .i64 tn, .int .i64 tt, .slice none 0 0] (.slice none 0 0) []) := T9.out.on r m
              clear r m T9 y0 z0 x0
              go_wp2_with fail
              go_meet
              exact ⟨by first | rfl | trivial, T10.out⟩
            · have e1 : a5 = a4 := Q5.out.trans (if_neg c)
              have e2 : tt = 0 := N5.out.trans (if_neg c)
              have e3 : a6 = a5 := Q6.out.trans (if_neg c)
              have e4 : (sh : Int) = 0 := N6.out.trans (if_neg c)
              have g1 : ¬ (kd : Int) = 9 := by omega
              have g2 : ((kd : Int) == 9) = false := beq_eq_false_iff_ne.2 g1
              clear c
              go_wp2_with fail
              go_meet
              rw [e2, e3, e1, e4]
              exact ⟨by first | rfl | trivial, T6.out⟩
          case rest =>
            obtain ⟨rfl, hcut⟩ := hcut
            have T7 : Hid (Px w wc l a6 #[.int .i64 (kd : Int), .int .i64 cd, .int .i64 of, .int .i64 tn, .int .i64 tt, .slice none 0 0] (.slice none 0 0) []) := hcut
            clear hcut T6 Q5 N5 Q6 N6 HN d0 d1 d2 d3 d4 d5 ld
            go_wp2_with fail
            refine Calls.mono (HM.out _ _ _ [10] (by decide) T7.out.rd) ?_
            rintro e W8 ⟨rfl, r, m⟩
            rw [← Q7.out] at r
            have T8 : Hid (Px w W8 l a7 #[.int .i64 (kd : Int), .int .i64 cd, .int .i64 of, .int .i64 tn, .int .i64 tt, .slice none 0 0] (.slice none 0 0) []) := T7.out.on r m
            have L8 : Hid (a7.l.length ≤ l.length) := r.len
            clear r m T7 Q7
            go_wp2_with fail
            go_loopw [9] (fun i wr => ∃ (acc : List Vi.Vl) (s' : Rs) (n : Nat) (v : Value), i = .int .i64 (acc.length : Int) ∧ Px w wr l s' #[.int .i64 (kd : Int), .int .i64 cd, .int .i64 of, .int .i64 tn, .int .i64 tt, v] v acc ∧ qvs n sh acc s' = LL ∧ sh ≤ acc.length + n ∧ (s'.f = false → 2 * acc.length + s'.l.length ≤ l.length) ∧ 2 * acc.length ≤ l.length + 2) (fun i _ => sh - (intOf i).toNat)
            case atStart => exact ⟨[], a7, sh, _, by first | rfl | simp, T8.out, QL.out.symm, by simp, fun _ => by have := L8.out; simpa using this, by simp⟩
            case round =>
              obtain ⟨acc, s', n, v, rfl, hz, he, hn, hl1, hl2⟩ := hrel
              rename World => WL
              have Z4 : Hid (Px w WL l s' #[.int .i64 (kd : Int), .int .i64 cd, .int .i64 of, .int .i64 tn, .int .i64 tt, v] v acc) := hz
              have HE : Hid (qvs n sh acc s' = LL) := he
              have HN1 : Hid (sh ≤ acc.length + n ∧ (s'.f = false → 2 * acc.length + s'.l.length ≤ l.length) ∧ 2 * acc.length ≤ l.length + 2) := ⟨hn, hl1, hl2⟩
              obtain ⟨va, vc, ev, -⟩ := hz.own.shape
              subst ev
              obtain ⟨h0, h1, h2⟩ := hz.rd.facts
              clear hz he hn hl1 hl2 T8 L8
              by_cases hlt : acc.length < sh
              · have g1 : (acc.length : Int) < (sh : Int) := by omega
                have g1d : decide ((acc.length : Int) < (sh : Int)) = true := decide_eq_true g1
                cases hf : s'.f with
                | false =>
                  rw [hf] at h1
                  have HX : Hid (∃ n', qvs n' sh (acc ++ [qvR s']) (qvB s') = LL ∧ sh ≤ (acc ++ [qvR s']).length + n') := by
                    have h9 := HN1.out.1
                    obtain ⟨n', rfl⟩ : ∃ n', n = n' + 1 := ⟨n - 1, by omega⟩
                    refine ⟨n', (qvs_go ⟨hlt, hf⟩).symm.trans HE.out, ?_⟩
                    rw [List.length_append, List.length_singleton]
                    omega
                  have HB : Hid ((qvB s').f = false → 2 * (acc ++ [qvR s']).length + (qvB s').l.length ≤ l.length) := fun h => by
                    have := qv_short h
                    have := HN1.out.2.1 hf
                    rw [List.length_append, List.length_singleton]
                    omega
                  have HAC : Hid (2 * (acc ++ [qvR s']).length ≤ l.length + 2) := by
                    have := HN1.out.2.1 hf
                    show _ ≤ _
                    rw [List.length_append, List.length_singleton]
                    omega
                  have HVW : Hid _ := HVI.out WL _ s' Z4.out.rd
                  have hacc : acc.length ≤ 999999 := by have := HN1.out.2.2; omega
                  clear hf HE HVI HVA HM Q8 EV EP QL
                  generalize qvR s' = x at *
                  generalize qvB s' = sx at *
                  go_wp2_with fail
                  refine Calls.mono HVW.out ?_
                  rintro e w5 ⟨rfl, r5, m5⟩
                  have B6 : Hid ((w5.alloc (Vi.vlO x)).heap[w5.heap.size]? = some (Vi.vlO x)) := heap_new _ _
                  have Z6 : Hid (Px w (w5.alloc (Vi.vlO x)) l sx #[.int .i64 (kd : Int), .int .i64 cd, .int .i64 of, .int .i64 tn, .int .i64 tt, .slice va acc.length vc] (.slice va acc.length vc) acc) := (Z4.out.on r5 m5).keep ((Same.refl _ w5).alloc _)
                  clear r5 m5 h0 h1 h2 Z4 HVW
                  simp only [Vi.vlV]
                  go_upto_region 23 with fail
                  generalize w5.alloc (Vi.vlO x) = W6 at B6 Z6 ⊢
                  generalize w5.heap.size = g10 at B6 ⊢
                  obtain ⟨q0, q1, q2, q3, q4, q5, q6, q7, q8, q9, q10, q11⟩ := vl_obj B6.out
                  have lq := lt_of_heap B6.out
                  obtain ⟨d0, d1, d2, d3, d4, d5⟩ := ou_obj Z6.out.b3
                  have ld := lt_of_heap Z6.out.b3
                  have KA : Hid (Kept W6 (W6.alloc (Vi.vlO x))) := (Same.refl _ W6).alloc _
                  have Z7 : Hid (Px w (W6.alloc (Vi.vlO x)) l sx #[.int .i64 (kd : Int), .int .i64 cd, .int .i64 of, .int .i64 tn, .int .i64 tt, .slice va acc.length vc] (.slice va acc.length vc) acc) := Z6.out.keep KA.out
                  have HAP : Hid (∀ ty, _) := fun ty => app_vio (x := x) Z7.out.own (heap_new W6 (Vi.vlO x)) (by omega) (lt_of_heap Z7.out.b3) ty
                  clear B6
                  go_wp2_with (at_builtin; refine wpList_app rfl (.tmp 70) (.tmp 72) 23 23 rfl (.slice va acc.length vc) (.slice (some ⟨W6.heap.size, 0, none⟩) 1 1) rfl rfl _ HAP.out ?_; rintro v7 w7 ⟨o7, k7, -⟩; obtain ⟨a7, c7, e7, -⟩ := o7.shape; subst e7; have Z8 : Hid (Px w w7 l sx #[.int .i64 (kd : Int), .int .i64 cd, .int .i64 of, .int .i64 tn, .int .i64 tt, .slice va acc.length vc] (.slice a7 (acc ++ [x]).length c7) (acc ++ [x])) := Z7.out.grow o7 k7; obtain ⟨y0, y1, y2⟩ := Z8.out.facts; have z5 := y2 5; have x5 := y1 5; clear y1 y2 o7 k7 q0 q1 q2 q3 q4 q5 q6 q7 q8 q9 q10 q11 lq d0 d1 d2 d3 d4 d5 ld; simp at x5)
                  go_roundw
                  case rel =>
                    obtain ⟨n', g1, g2⟩ := HX.out
                    refine ⟨acc ++ [x], sx, n', .slice a7 (acc ++ [x]).length c7, by simp, ?_, g1, g2, HB.out, HAC.out⟩
                    have h9 := Z8.out.set 5 (.slice a7 (acc ++ [x]).length c7)
                    simp only [List.setIfInBounds_toArray, List.set_cons_zero, List.set_cons_succ] at h9
                    rw [show (acc ++ [x]).length = acc.length + 1 by rw [List.length_append, List.length_singleton]] at h9 ⊢
                    exact h9
                  case measure => simp only [intOf]; omega
                | true =>
                  rw [hf] at h1
                  have EL : Hid (LL = (acc, s')) := HE.out.symm.trans (qvs_stop (by rw [hf]; simp))
                  clear hf HVI
                  have E8 : Hid (a8 = qm footB s') := by have := Q8.out; rw [EL.out] at this; exact this
                  have EV2 : Hid (VR = ⟨(kd : Int), cd, of, tn, tt, acc⟩) := by have := EV.out; rw [EL.out] at this; exact this
                  clear EL Q8 EV HE QL
                  go_wp2_with fail
                  refine Calls.mono (HM.out _ _ _ footB (by decide) Z4.out.rd) ?_
                  rintro e w9 ⟨rfl, r, m⟩
                  rw [← show a8 = _ from E8.out] at r
                  have Z9 : Hid (Px w w9 l a8 #[.int .i64 (kd : Int), .int .i64 cd, .int .i64 of, .int .i64 tn, .int .i64 tt, .slice va acc.length vc] (.slice va acc.length vc) acc) := Z4.out.on r m
                  clear r m E8 Z4 h0 h1 h2
                  obtain ⟨p8, f8⟩ := a8
                  obtain ⟨k8, hk8, el8, hb8⟩ := Z9.out.rd.at_
                  dsimp only at el8 hb8 EP
                  obtain ⟨h0, h1, h2, h3, h4, h5, h6⟩ := hb8.facts
                  obtain ⟨d0, d1, d2, d3, d4, d5⟩ := ou_obj Z9.out.b3
                  have hq2 := Z9.out.b2
                  unfold ouz at hq2
                  obtain ⟨q0, q1, q2, q3, q4, q5⟩ := ou_obj hq2
                  have g0 := frozen_of hq2 0
                  have g1 := frozen_of hq2 1
                  have g2 := frozen_of hq2 2
                  have g3 := frozen_of hq2 3
                  have g4 := frozen_of hq2 4
                  have g5 := frozen_of hq2 5
                  have lq := lt_of_heap Z9.out.b2
                  have ld := lt_of_heap Z9.out.b3
                  cases f8 with
                  | true =>
                    have EPQ : Hid (PQ = (ou00, 220)) := EP.out.trans (by first | exact if_pos rfl | exact if_pos trivial)
                    clear EP hk8 el8 hb8
                    go_wp2_with fail
                    refine bodyPost_ret (results_ct22 (a := 2) (t := 25) (u := 3) rfl rfl (loadVar_ou (put6o_at Z9.out.b2 _ _ _ _ _ _))) rfl ?_
                    have k9' := put6o_same w9 w.heap.size (.int .i64 0) (.int .i64 0) (.int .i64 0) (.int .i64 0) (.int .i64 0) (.slice none 0 0)
                    rw [EPQ.out]
                    refine ⟨none, 0, rfl, Vi.Own.nil _ _ _ _ _, Same.trans Z9.out.kp k9' (fun i hi e => by omega)⟩
                  | false =>
                    have EP2 : Hid (PQ = if p8 ≠ [] then (ou00, 220) else if okO VR = true then (VR, 0) else (ou00, 220)) := EP.out.trans (by first | exact if_neg Bool.false_ne_true | exact if_neg (fun h => h))
                    clear EP hb8
                    by_cases hk : k8 = l.length
                    · have b1 : ((k8 : Int) != (l.length : Int)) = false := by rw [hk]; simp
                      have b2 : ((k8 : Int) == (l.length : Int)) = true := by rw [hk]; simp
                      have EP3 : Hid (PQ = if okO VR = true then (VR, 0) else (ou00, 220)) := EP2.out.trans (if_neg (by rw [el8, hk]; simp))
                      rw [EV2.out] at EP3
                      have HVW : Hid _ := HVA.out w9 ⟨(kd : Int), cd, of, tn, tt, acc⟩ va vc (Vi.Own.at Vi.ekV Z9.out.own) (by have := HN1.out.2.2; dsimp only; omega)
                      dsimp only at HVW
                      subst hk
                      clear EP2 el8 hk8 EV2
                      cases hok : okO ⟨(kd : Int), cd, of, tn, tt, acc⟩ with
                      | false =>
                        have EPQ : Hid (PQ = (ou00, 220)) := EP3.out.trans (if_neg (by rw [hok]; decide))
                        rw [hok] at HVW
                        clear hok EP3
                        go_wp2_with fail
                        refine Calls.mono HVW.out ?_
                        rintro e wx ⟨rfl, gx⟩
                        have ZX : Hid (Px w wx l _ #[.int .i64 (kd : Int), .int .i64 cd, .int .i64 of, .int .i64 tn, .int .i64 tt, .slice va acc.length vc] (.slice va acc.length vc) acc) := Z9.out.keep (Vi.Grw.kept gx)
                        clear gx HVW Z9 h0 h1 h2 h3 h4 h5 h6 d0 d1 d2 d3 d4 d5 hq2 q0 q1 q2 q3 q4 q5 g0 g1 g2 g3 g4 g5 lq ld
                        obtain ⟨d0, d1, d2, d3, d4, d5⟩ := ou_obj ZX.out.b3
                        have hq2 := ZX.out.b2
                        unfold ouz at hq2
                        obtain ⟨q0, q1, q2, q3, q4, q5⟩ := ou_obj hq2
                        have g0 := frozen_of hq2 0
                        have g1 := frozen_of hq2 1
                        have g2 := frozen_of hq2 2
                        have g3 := frozen_of hq2 3
                        have g4 := frozen_of hq2 4
                        have g5 := frozen_of hq2 5
                        have lq := lt_of_heap ZX.out.b2
                        have ld := lt_of_heap ZX.out.b3
                        go_wp2_with fail
                        refine bodyPost_ret (results_ct22 (a := 2) (t := 25) (u := 3) rfl rfl (loadVar_ou (put6o_at ZX.out.b2 _ _ _ _ _ _))) rfl ?_
                        have k9' := put6o_same wx w.heap.size (.int .i64 0) (.int .i64 0) (.int .i64 0) (.int .i64 0) (.int .i64 0) (.slice none 0 0)
                        rw [EPQ.out]
                        refine ⟨none, 0, rfl, Vi.Own.nil _ _ _ _ _, Same.trans ZX.out.kp k9' (fun i hi e => by omega)⟩
                      | true =>
                        have EPQ : Hid (PQ = (⟨(kd : Int), cd, of, tn, tt, acc⟩, 0)) := EP3.out.trans (if_pos hok)
                        rw [hok] at HVW
                        clear hok EP3
                        go_wp2_with fail
                        refine Calls.mono HVW.out ?_
                        rintro e wx ⟨rfl, gx⟩
                        have ZX : Hid (Px w wx l _ #[.int .i64 (kd : Int), .int .i64 cd, .int .i64 of, .int .i64 tn, .int .i64 tt, .slice va acc.length vc] (.slice va acc.length vc) acc) := Z9.out.keep (Vi.Grw.kept gx)
                        clear gx HVW Z9 h0 h1 h2 h3 h4 h5 h6 d0 d1 d2 d3 d4 d5 hq2 q0 q1 q2 q3 q4 q5 g0 g1 g2 g3 g4 g5 lq ld
                        obtain ⟨d0, d1, d2, d3, d4, d5⟩ := ou_obj ZX.out.b3
                        have hq2 := ZX.out.b2
                        unfold ouz at hq2
                        obtain ⟨q0, q1, q2, q3, q4, q5⟩ := ou_obj hq2
                        have g0 := frozen_of hq2 0
                        have g1 := frozen_of hq2 1
                        have g2 := frozen_of hq2 2
                        have g3 := frozen_of hq2 3
                        have g4 := frozen_of hq2 4
                        have g5 := frozen_of hq2 5
                        have lq := lt_of_heap ZX.out.b2
                        have ld := lt_of_heap ZX.out.b3
                        go_wp2_with fail
                        refine bodyPost_ret (results_ct22 (a := 2) (t := 25) (u := 3) rfl rfl (loadVar_ou (put6o_at ZX.out.b2 _ _ _ _ _ _))) rfl ?_
                        have k9' := put6o_same wx w.heap.size (.int .i64 (kd : Int)) (.int .i64 cd) (.int .i64 of) (.int .i64 tn) (.int .i64 tt) (.slice va acc.length vc)
                        rw [EPQ.out]
                        refine ⟨va, vc, rfl, (ZX.out.own.base (by omega)).kept k9' (fun b hb e => by have := (ZX.out.own.block hb).1; omega), Same.trans ZX.out.kp k9' (fun i hi e => by omega)⟩
                    · have b1 : ((k8 : Int) != (l.length : Int)) = true := by rw [bne_iff_ne]; omega
                      have b2 : ((k8 : Int) == (l.length : Int)) = false := beq_eq_false_iff_ne.2 (by omega)
                      have EPQ : Hid (PQ = (ou00, 220)) := EP2.out.trans (if_pos (by rw [el8]; intro e; have := congrArg List.length e; rw [List.length_drop] at this; simp at this; omega))
                      clear EP2 hk el8 hk8
                      go_wp2_with fail
                      refine bodyPost_ret (results_ct22 (a := 2) (t := 25) (u := 3) rfl rfl (loadVar_ou (put6o_at Z9.out.b2 _ _ _ _ _ _))) rfl ?_
                      have k9' := put6o_same w9 w.heap.size (.int .i64 0) (.int .i64 0) (.int .i64 0) (.int .i64 0) (.int .i64 0) (.slice none 0 0)
                      rw [EPQ.out]
                      refine ⟨none, 0, rfl, Vi.Own.nil _ _ _ _ _, Same.trans Z9.out.kp k9' (fun i hi e => by omega)⟩
              · have g1 : ¬ (acc.length : Int) < (sh : Int) := by omega
                have g1d : decide ((acc.length : Int) < (sh : Int)) = false := decide_eq_false g1
                have EL : Hid (LL = (acc, s')) := HE.out.symm.trans (qvs_stop (fun h => hlt h.1))
                clear HVI
                have E8 : Hid (a8 = qm footB s') := by have := Q8.out; rw [EL.out] at this; exact this
                have EV2 : Hid (VR = ⟨(kd : Int), cd, of, tn, tt, acc⟩) := by have := EV.out; rw [EL.out] at this; exact this
                clear EL Q8 EV HE QL
                go_wp2_with fail
                refine Calls.mono (HM.out _ _ _ footB (by decide) Z4.out.rd) ?_
                rintro e w9 ⟨rfl, r, m⟩
                rw [← show a8 = _ from E8.out] at r
                have Z9 : Hid (Px w w9 l a8 #[.int .i64 (kd : Int), .int .i64 cd, .int .i64 of, .int .i64 tn, .int .i64 tt, .slice va acc.length vc] (.slice va acc.length vc) acc) := Z4.out.on r m
                clear r m E8 Z4 h0 h1 h2
                obtain ⟨p8, f8⟩ := a8
                obtain ⟨k8, hk8, el8, hb8⟩ := Z9.out.rd.at_
                dsimp only at el8 hb8 EP
                obtain ⟨h0, h1, h2, h3, h4, h5, h6⟩ := hb8.facts
                obtain ⟨d0, d1, d2, d3, d4, d5⟩ := ou_obj Z9.out.b3
                have hq2 := Z9.out.b2
                unfold ouz at hq2
                obtain ⟨q0, q1, q2, q3, q4, q5⟩ := ou_obj hq2
                have g0 := frozen_of hq2 0
                have g1 := frozen_of hq2 1
                have g2 := frozen_of hq2 2
                have g3 := frozen_of hq2 3
                have g4 := frozen_of hq2 4
                have g5 := frozen_of hq2 5
                have lq := lt_of_heap Z9.out.b2
                have ld := lt_of_heap Z9.out.b3
                cases f8 with
                | true =>
                  have EPQ : Hid (PQ = (ou00, 220)) := EP.out.trans (by first | exact if_pos rfl | exact if_pos trivial)
                  clear EP hk8 el8 hb8
                  go_wp2_with fail
                  refine bodyPost_ret (results_ct22 (a := 2) (t := 25) (u := 3) rfl rfl (loadVar_ou (put6o_at Z9.out.b2 _ _ _ _ _ _))) rfl ?_
                  have k9' := put6o_same w9 w.heap.size (.int .i64 0) (.int .i64 0) (.int .i64 0) (.int .i64 0) (.int .i64 0) (.slice none 0 0)
                  rw [EPQ.out]
                  refine ⟨none, 0, rfl, Vi.Own.nil _ _ _ _ _, Same.trans Z9.out.kp k9' (fun i hi e => by omega)⟩
                | false =>
                  have EP2 : Hid (PQ = if p8 ≠ [] then (ou00, 220) else if okO VR = true then (VR, 0) else (ou00, 220)) := EP.out.trans (by first | exact if_neg Bool.false_ne_true | exact if_neg (fun h => h))
                  clear EP hb8
                  by_cases hk : k8 = l.length
                  · have b1 : ((k8 : Int) != (l.length : Int)) = false := by rw [hk]; simp
                    have b2 : ((k8 : Int) == (l.length : Int)) = true := by rw [hk]; simp
                    have EP3 : Hid (PQ = if okO VR = true then (VR, 0) else (ou00, 220)) := EP2.out.trans (if_neg (by rw [el8, hk]; simp))
                    rw [EV2.out] at EP3
                    have HVW : Hid _ := HVA.out w9 ⟨(kd : Int), cd, of, tn, tt, acc⟩ va vc (Vi.Own.at Vi.ekV Z9.out.own) (by have := HN1.out.2.2; dsimp only; omega)
                    dsimp only at HVW
                    subst hk
                    clear EP2 el8 hk8 EV2
                    cases hok : okO ⟨(kd : Int), cd, of, tn, tt, acc⟩ with
                    | false =>
                      have EPQ : Hid (PQ = (ou00, 220)) := EP3.out.trans (if_neg (by rw [hok]; decide))
                      rw [hok] at HVW
                      clear hok EP3
                      go_wp2_with fail
                      refine Calls.mono HVW.out ?_
                      rintro e wx ⟨rfl, gx⟩
                      have ZX : Hid (Px w wx l _ #[.int .i64 (kd : Int), .int .i64 cd, .int .i64 of, .int .i64 tn, .int .i64 tt, .slice va acc.length vc] (.slice va acc.length vc) acc) := Z9.out.keep (Vi.Grw.kept gx)
                      clear gx HVW Z9 h0 h1 h2 h3 h4 h5 h6 d0 d1 d2 d3 d4 d5 hq2 q0 q1 q2 q3 q4 q5 g0 g1 g2 g3 g4 g5 lq ld
                      obtain ⟨d0, d1, d2, d3, d4, d5⟩ := ou_obj ZX.out.b3
                      have hq2 := ZX.out.b2
                      unfold ouz at hq2
                      obtain ⟨q0, q1, q2, q3, q4, q5⟩ := ou_obj hq2
                      have g0 := frozen_of hq2 0
                      have g1 := frozen_of hq2 1
                      have g2 := frozen_of hq2 2
                      have g3 := frozen_of hq2 3
                      have g4 := frozen_of hq2 4
                      have g5 := frozen_of hq2 5
                      have lq := lt_of_heap ZX.out.b2
                      have ld := lt_of_heap ZX.out.b3
                      go_wp2_with fail
                      refine bodyPost_ret (results_ct22 (a := 2) (t := 25) (u := 3) rfl rfl (loadVar_ou (put6o_at ZX.out.b2 _ _ _ _ _ _))) rfl ?_
                      have k9' := put6o_same wx w.heap.size (.int .i64 0) (.int .i64 0) (.int .i64 0) (.int .i64 0) (.int .i64 0) (.slice none 0 0)
                      rw [EPQ.out]
                      refine ⟨none, 0, rfl, Vi.Own.nil _ _ _ _ _, Same.trans ZX.out.kp k9' (fun i hi e => by omega)⟩
                    | true =>
                      have EPQ : Hid (PQ = (⟨(kd : Int), cd, of, tn, tt, acc⟩, 0)) := EP3.out.trans (if_pos hok)
                      rw [hok] at HVW
                      clear hok EP3
                      go_wp2_with fail
                      refine Calls.mono HVW.out ?_
                      rintro e wx ⟨rfl, gx⟩
                      have ZX : Hid (Px w wx l _ #[.int .i64 (kd : Int), .int .i64 cd, .int .i64 of, .int .i64 tn, .int .i64 tt, .slice va acc.length vc] (.slice va acc.length vc) acc) := Z9.out.keep (Vi.Grw.kept gx)
                      clear gx HVW Z9 h0 h1 h2 h3 h4 h5 h6 d0 d1 d2 d3 d4 d5 hq2 q0 q1 q2 q3 q4 q5 g0 g1 g2 g3 g4 g5 lq ld
                      obtain ⟨d0, d1, d2, d3, d4, d5⟩ := ou_obj ZX.out.b3
                      have hq2 := ZX.out.b2
                      unfold ouz at hq2
                      obtain ⟨q0, q1, q2, q3, q4, q5⟩ := ou_obj hq2
                      have g0 := frozen_of hq2 0
                      have g1 := frozen_of hq2 1
                      have g2 := frozen_of hq2 2
                      have g3 := frozen_of hq2 3
                      have g4 := frozen_of hq2 4
                      have g5 := frozen_of hq2 5
                      have lq := lt_of_heap ZX.out.b2
                      have ld := lt_of_heap ZX.out.b3
                      go_wp2_with fail
                      refine bodyPost_ret (results_ct22 (a := 2) (t := 25) (u := 3) rfl rfl (loadVar_ou (put6o_at ZX.out.b2 _ _ _ _ _ _))) rfl ?_
                      have k9' := put6o_same wx w.heap.size (.int .i64 (kd : Int)) (.int .i64 cd) (.int .i64 of) (.int .i64 tn) (.int .i64 tt) (.slice va acc.length vc)
                      rw [EPQ.out]
                      refine ⟨va, vc, rfl, (ZX.out.own.base (by omega)).kept k9' (fun b hb e => by have := (ZX.out.own.block hb).1; omega), Same.trans ZX.out.kp k9' (fun i hi e => by omega)⟩
                  · have b1 : ((k8 : Int) != (l.length : Int)) = true := by rw [bne_iff_ne]; omega
                    have b2 : ((k8 : Int) == (l.length : Int)) = false := beq_eq_false_iff_ne.2 (by omega)
                    have EPQ : Hid (PQ = (ou00, 220)) := EP2.out.trans (if_pos (by rw [el8]; intro e; have := congrArg List.length e; rw [List.length_drop] at this; simp at this; omega))
                    clear EP2 hk el8 hk8
                    go_wp2_with fail
                    refine bodyPost_ret (results_ct22 (a := 2) (t := 25) (u := 3) rfl rfl (loadVar_ou (put6o_at Z9.out.b2 _ _ _ _ _ _))) rfl ?_
                    have k9' := put6o_same w9 w.heap.size (.int .i64 0) (.int .i64 0) (.int .i64 0) (.int .i64 0) (.int .i64 0) (.slice none 0 0)
                    rw [EPQ.out]
                    refine ⟨none, 0, rfl, Vi.Own.nil _ _ _ _ _, Same.trans Z9.out.kp k9' (fun i hi e => by omega)⟩
end Go.Proofs.YtfhaiklfbnfdlaaDoor

namespace Go.Proofs.YtfhaiklfbnfdlaaDoor
open Go.RowKit

theorem prs_len (l : List UInt8) : (prsT l).1.ls.length ≤ 10000 := by
  by_cases h : (prsT l).2 = 0
  · have := okO_iff (prs_inv h).1
    exact this.2.2.2.2.2.2.1
  · rw [prs_no h]
    decide
set_option maxRecDepth 100000 in
set_option maxHeartbeats 1600000 in
theorem parses22_law (w : World) (l : List UInt8) (hl : l.length ≤ 1048576) (tb : Tab w.heap.size w) (hm : Mx w) (hw : Wds w) :
    Calls Tryd.prog 4 #[tx l] w fun e w' => e = .returned (.bool true) ∧ Kept w w' := by
  have HA : Hid (∀ W, Kept w W → _) := fun W (k : Kept w W) => anchor_any22 W (tb.up (Nat.le_refl _) k) (hm.on k) (hw.on k)
  have HP : Hid (∀ W, Kept w W → Calls Tryd.prog 16 #[tx l] W fun e w' => ∃ a c, e = .returned (.tuple #[ouV (prsT l).1 (.slice a (prsT l).1.ls.length c), .int .i64 (prsT l).2]) ∧ Vi.At Vi.vl1 12 w' a (prsT l).1.ls ∧ Kept W w') := fun W k => (parse22 l W (by omega) (hm.on k) (hw.on k)).mono fun e w' ⟨a, c, x, y, z⟩ => ⟨a, c, x, Vi.Own.at Vi.ekV y, z⟩
  have HQ : Hid (∀ W, Calls Tryd.prog 17 #[tx l] W fun e w' => ∃ a c, e = .returned (.tuple #[ouV (prsT l).1 (.slice a (prsT l).1.ls.length c), .int .i64 (prsT l).2]) ∧ Vi.At Vi.vl1 12 w' a (prsT l).1.ls ∧ Kept W w') := fun W => by
    have h9 := rparse22 l W hl
    rw [prsQ_eq] at h9
    exact h9.mono fun e w' ⟨a, c, x, y, z⟩ => ⟨a, c, x, Vi.Own.at Vi.ekV y, z⟩
  have HL := prs_len l
  have HS : Hid (∀ W a b c d, Vi.At Vi.vl1 12 W a (prsT l).1.ls → Vi.At Vi.vl1 12 W b (prsT l).1.ls → Calls Tryd.prog 14 #[ouV (prsT l).1 (.slice a (prsT l).1.ls.length c), ouV (prsT l).1 (.slice b (prsT l).1.ls.length d)] W fun e w' => e = .returned (.bool true) ∧ Kept W w') := fun W a b c d x y => same22_any W (prsT l).1 (prsT l).1 a b c d x y (by omega) (by omega) true (by simp)
  clear tb hm hw hl
  generalize prsT l = PT at *
  obtain ⟨⟨kd, cd, of, tn, tt, ls⟩, z⟩ := PT
  unfold ouV at HP HQ HS
  dsimp only at HP HQ HS HL
  obtain ⟨n, en⟩ : ∃ n, n = ls.length := ⟨_, rfl⟩
  rw [← en] at HP HQ HS HL
  clear en
  go_enter Tryd.func4, Tryd.ntmps4
  go_wp2_with fail
  refine Calls.mono (HA.out _ (Same.refl _ w)) ?_
  rintro e w1 ⟨rfl, k1⟩
  have K1 : Hid (Kept w w1) := k1
  clear k1 HA
  go_wp2_with fail
  refine Calls.mono (HP.out _ K1.out) ?_
  rintro e w2 ⟨a, c, rfl, x2, k2⟩
  have B3 : Hid ((w2.alloc (ouO (.int .i64 kd) (.int .i64 cd) (.int .i64 of) (.int .i64 tn) (.int .i64 tt) (.slice a n c))).heap[w2.heap.size]? = some (ouO (.int .i64 kd) (.int .i64 cd) (.int .i64 of) (.int .i64 tn) (.int .i64 tt) (.slice a n c))) := heap_new _ _
  have k3 : Kept w2 (w2.alloc (ouO (.int .i64 kd) (.int .i64 cd) (.int .i64 of) (.int .i64 tn) (.int .i64 tt) (.slice a n c))) := (Same.refl _ w2).alloc _
  have S3 : Hid (Kept w _ ∧ Vi.At Vi.vl1 12 _ a ls) := ⟨K1.out.trans' (k2.trans' k3), x2.on k3⟩
  clear k3 k2 x2 K1 HP
  go_upto_region 4 with fail
  generalize w2.alloc (ouO (.int .i64 kd) (.int .i64 cd) (.int .i64 of) (.int .i64 tn) (.int .i64 tt) (.slice a n c)) = W3 at B3 S3 ⊢
  generalize w2.heap.size = g3 at B3 ⊢
  go_wp2_with fail
  refine Calls.mono (HQ.out _) ?_
  rintro e w4 ⟨b, d, rfl, x4, k4⟩
  have B5 : Hid ((w4.alloc (ouO (.int .i64 kd) (.int .i64 cd) (.int .i64 of) (.int .i64 tn) (.int .i64 tt) (.slice b n d))).heap[w4.heap.size]? = some (ouO (.int .i64 kd) (.int .i64 cd) (.int .i64 of) (.int .i64 tn) (.int .i64 tt) (.slice b n d))) := heap_new _ _
  have k5 : Kept w4 (w4.alloc (ouO (.int .i64 kd) (.int .i64 cd) (.int .i64 of) (.int .i64 tn) (.int .i64 tt) (.slice b n d))) := (Same.refl _ w4).alloc _
  have S5 : Hid (Kept w _ ∧ Vi.At Vi.vl1 12 _ a ls ∧ Vi.At Vi.vl1 12 _ b ls ∧ _) := ⟨S3.out.1.trans' (k4.trans' k5), S3.out.2.on (k4.trans' k5), x4.on k5, ((k4.trans' k5).block _ (lt_of_heap B3.out) (fun e => e)).trans B3.out⟩
  clear k5 k4 x4 S3 B3 HQ
  go_upto_region 5 with fail
  generalize w4.alloc (ouO (.int .i64 kd) (.int .i64 cd) (.int .i64 of) (.int .i64 tn) (.int .i64 tt) (.slice b n d)) = W5 at B5 S5 ⊢
  generalize w4.heap.size = g5 at B5 ⊢
  obtain ⟨c0, c1, c2, c3, c4, c5⟩ := ou_obj S5.out.2.2.2
  have l3 := lt_of_heap S5.out.2.2.2
  obtain ⟨d0, d1, d2, d3, d4, d5⟩ := ou_obj B5.out
  have l5 := lt_of_heap B5.out
  go_wp2_with fail
  refine Calls.mono (HS.out _ _ _ _ _ S5.out.2.1 S5.out.2.2.1) ?_
  rintro e w6 ⟨rfl, k6⟩
  have K6 : Hid (Kept w w6) := S5.out.1.trans' k6
  clear k6 c0 c1 c2 c3 c4 c5 l3 d0 d1 d2 d3 d4 d5 l5 S5 B5
  go_wp2_with fail
  go_ret
  exact ⟨rfl, K6.out⟩
end Go.Proofs.YtfhaiklfbnfdlaaDoor
