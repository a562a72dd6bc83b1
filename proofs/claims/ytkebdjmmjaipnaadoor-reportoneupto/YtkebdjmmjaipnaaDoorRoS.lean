/- What is proved: report's reader, plain: a violation and a list of violations that are written are read back, and what is read is what is written; no condition. -/
import Derived.Test.YtkebdjmmjaipnaaDoorRoR
namespace Go.Proofs.YtkebdjmmjaipnaaDoor
open Go.RowKit

theorem plcL_cons (b : UInt8) (p : List UInt8) (n : Int) : plcL (b :: p) n = b :: plcL p n := by
  unfold plcL
  split <;> rfl
theorem vaL_cons (b : UInt8) (p : List UInt8) (th : Bool) (s : List UInt8) : vaL (b :: p) th s = b :: vaL p th s := rfl
theorem numL_cons (b : UInt8) (p : List UInt8) (n : Int) : numL (b :: p) n = b :: numL p n := rfl
theorem bt_bts (l : List UInt8) : bt (bts l) = l := rfl
theorem bts_bt (s : ByteArray) : bts (bt s) = s := rfl
/-- A violation's line and what stands behind it, field by field. -/
def vioM (x : Vi.Vl) (r : List UInt8) : List UInt8 := vWord x.kd ++ 32 :: (numL [116, 105, 109, 101, 32] x.tm ++ 32 :: (numL [116, 120, 110, 32] x.tx ++ 32 :: (plcL [111, 112, 32] x.op ++ 32 :: (plcL [119, 105, 116, 110, 101, 115, 115, 32] x.wi ++ 32 :: (([107, 101, 121, 32] ++ wd (bt x.key)) ++ 32 :: (vaL [119, 97, 110, 116, 32] x.wa (bt x.ex) ++ 32 :: (vaL [103, 111, 116, 32] x.go (bt x.ob) ++ 32 :: (numL [102, 114, 111, 109, 32] x.fr ++ 32 :: (numL [116, 111, 32] x.tt ++ 10 :: r)))))))))
theorem vioL_eq (x : Vi.Vl) (r : List UInt8) : vioL x ++ r = vioM x r := by
  have e : vaL [107, 101, 121, 32] true (bt x.key) = [107, 101, 121, 32] ++ wd (bt x.key) := by
    unfold vaL
    rw [if_pos rfl]
  unfold vioL vioM
  rw [← e]
  simp only [plcL_cons, vaL_cons, numL_cons, List.append_assoc, List.cons_append, List.nil_append]
theorem vWords_at {i : Nat} (h : i < 10) : ∃ v, vWords[i]? = some v ∧ vWord ((i + 1 : Nat) : Int) = v ∧ v.all (fun b => b != 32) = true := by
  match i, h with
  | 0, _ => exact ⟨_, rfl, rfl, by decide⟩
  | 1, _ => exact ⟨_, rfl, rfl, by decide⟩
  | 2, _ => exact ⟨_, rfl, rfl, by decide⟩
  | 3, _ => exact ⟨_, rfl, rfl, by decide⟩
  | 4, _ => exact ⟨_, rfl, rfl, by decide⟩
  | 5, _ => exact ⟨_, rfl, rfl, by decide⟩
  | 6, _ => exact ⟨_, rfl, rfl, by decide⟩
  | 7, _ => exact ⟨_, rfl, rfl, by decide⟩
  | 8, _ => exact ⟨_, rfl, rfl, by decide⟩
  | 9, _ => exact ⟨_, rfl, rfl, by decide⟩
  | n + 10, h => omega
theorem words_ne {ws : List (List UInt8)} (hn : ws.Nodup) {i : Nat} {v : List UInt8} (hv : ws[i]? = some v) : ∀ j, j < i → ∀ x, ws[j]? = some x → x ≠ v := by
  intro j hj x hx e
  subst e
  have hi := (List.getElem?_eq_some_iff.1 hv).1
  have hjl := (List.getElem?_eq_some_iff.1 hx).1
  have := List.pairwise_iff_getElem.1 hn j i hjl hi hj
  rw [List.getElem?_eq_getElem hjl, Option.some.injEq] at hx
  rw [List.getElem?_eq_getElem hi, Option.some.injEq] at hv
  exact this (hx.trans hv.symm)
theorem vWords_nodup : vWords.Nodup := by decide
theorem vio_app {x : Vi.Vl} (hx : Vi.okV x = true) (r : List UInt8) : vioR ⟨vioL x ++ r, false⟩ = x ∧ vsA ⟨vioL x ++ r, false⟩ = ⟨r, false⟩ := by
  obtain ⟨h0, h1, h2, h3, h4, h5, h6, h7, h8, h9⟩ := Vi.okV_iff x |>.1 hx
  rw [vioL_eq]
  obtain ⟨kd, tm, tx, op, wi, key, wa, ex, go, ob, fr, tt⟩ := x
  simp only at h0 h1 h2 h3 h4 h5 h6 h7 h8 h9
  obtain ⟨i, rfl⟩ : ∃ i : Nat, kd = ((i + 1 : Nat) : Int) := ⟨(kd - 1).toNat, by omega⟩
  obtain ⟨tm, rfl⟩ := Int.eq_ofNat_of_zero_le h1.1
  obtain ⟨tx, rfl⟩ := Int.eq_ofNat_of_zero_le h4.1
  obtain ⟨fr, rfl⟩ := Int.eq_ofNat_of_zero_le h2.1
  obtain ⟨tt, rfl⟩ := Int.eq_ofNat_of_zero_le h3.1
  obtain ⟨v, w1, w2, w3⟩ := vWords_at (i := i) (by omega)
  have hex : wa = true ∨ bt ex = [] := h8.2.imp_right fun e => List.eq_nil_of_length_eq_zero (by rw [bt_len]; exact e)
  have hob : go = true ∨ bt ob = [] := h9.2.imp_right fun e => List.eq_nil_of_length_eq_zero (by rw [bt_len]; exact e)
  unfold vioM
  dsimp only
  rw [w2]
  generalize hr9 : numL [116, 111, 32] (tt : Int) ++ 10 :: r = r9
  generalize hr8 : numL [102, 114, 111, 109, 32] (fr : Int) ++ 32 :: r9 = r8
  generalize hr7 : vaL [103, 111, 116, 32] go (bt ob) ++ 32 :: r8 = r7
  generalize hr6 : vaL [119, 97, 110, 116, 32] wa (bt ex) ++ 32 :: r7 = r6
  generalize hr5 : ([107, 101, 121, 32] ++ wd (bt key)) ++ 32 :: r6 = r5
  generalize hr4 : plcL [119, 105, 116, 110, 101, 115, 115, 32] wi ++ 32 :: r5 = r4
  generalize hr3 : plcL [111, 112, 32] op ++ 32 :: r4 = r3
  generalize hr2 : numL [116, 120, 110, 32] (tx : Int) ++ 32 :: r3 = r2
  generalize hr1 : numL [116, 105, 109, 101, 32] (tm : Int) ++ 32 :: r2 = r1
  obtain ⟨a0, b0⟩ := kd_app (words_ne vWords_nodup w1) w1 w3 r1
  obtain ⟨a1, b1⟩ := nuR_app (n := tm) (by omega) [116, 105, 109, 101, 32] (c := 32) (by decide) r2
  obtain ⟨a2, b2⟩ := nuR_app (n := tx) (by omega) [116, 120, 110, 32] (c := 32) (by decide) r3
  obtain ⟨a3, b3⟩ := pl_app (n := op) (by omega) (by omega) [111, 112, 32] r4
  obtain ⟨a4, b4⟩ := pl_app (n := wi) (by omega) (by omega) [119, 105, 116, 110, 101, 115, 115, 32] r5
  obtain ⟨a5, b5⟩ := wo_app (bt key) [107, 101, 121, 32] r6
  obtain ⟨a6, c6, b6⟩ := va_app hex [119, 97, 110, 116, 32] r7
  obtain ⟨a7, c7, b7⟩ := va_app hob [103, 111, 116, 32] r8
  obtain ⟨a8, b8⟩ := nuR_app (n := fr) (by omega) [102, 114, 111, 109, 32] (c := 32) (by decide) r9
  obtain ⟨a9, b9⟩ := nuR_app (n := tt) (by omega) [116, 111, 32] (c := 10) (by decide) r
  rw [hr1] at a1 b1
  rw [hr2] at a2 b2
  rw [hr3] at a3 b3
  rw [hr4] at a4 b4
  rw [hr5] at a5 b5
  rw [hr6] at a6 c6 b6
  rw [hr7] at a7 c7 b7
  rw [hr8] at a8 b8
  rw [hr9] at a9 b9
  have e1 : vs1 ⟨v ++ 32 :: r1, false⟩ = ⟨r1, false⟩ := b0
  generalize hs : (⟨v ++ 32 :: r1, false⟩ : Rs) = s at *
  have e2 : vs2 s = ⟨r2, false⟩ := by unfold vs2; rw [e1]; exact b1
  have e3 : vs3 s = ⟨r3, false⟩ := by unfold vs3; rw [e2]; exact b2
  have e4 : vs4 s = ⟨r4, false⟩ := by unfold vs4; rw [e3]; exact b3
  have e5 : vs5 s = ⟨r5, false⟩ := by unfold vs5; rw [e4]; exact b4
  have e6 : vs6 s = ⟨r6, false⟩ := by unfold vs6; rw [e5]; exact b5
  have e7 : vs7 s = ⟨r7, false⟩ := by unfold vs7; rw [e6]; exact b6
  have e8 : vs8 s = ⟨r8, false⟩ := by unfold vs8; rw [e7]; exact b7
  have e9 : vs9 s = ⟨r9, false⟩ := by unfold vs9; rw [e8]; exact b8
  refine ⟨?_, by unfold vsA; rw [e9]; exact b9⟩
  unfold vioR
  rw [e1, e2, e3, e4, e5, e6, e7, e8, e9, a0, a1, a2, a3, a4, a5, a6, c6, a7, c7, a8, a9, bts_bt, bts_bt, bts_bt]
theorem vio_inv {s : Rs} (h : (vsA s).f = false) : s.f = false ∧ s.l = vioL (vioR s) ++ (vsA s).l := by
  obtain ⟨g9, _, t9⟩ := nu_inv (s := vs9 s) h
  obtain ⟨g8, _, t8⟩ := nu_inv (s := vs8 s) g9
  obtain ⟨g7, _, t7⟩ := va_inv (s := vs7 s) g8
  obtain ⟨g6, _, t6⟩ := va_inv (s := vs6 s) g7
  obtain ⟨g5, t5⟩ := wo_inv (s := vs5 s) g6
  obtain ⟨g4, _, t4⟩ := pl_inv (s := vs4 s) g5
  obtain ⟨g3, _, t3⟩ := pl_inv (s := vs3 s) g4
  obtain ⟨g2, _, t2⟩ := nu_inv (s := vs2 s) g3
  obtain ⟨g1, _, t1⟩ := nu_inv (s := vs1 s) g2
  obtain ⟨g0, i, v, k1, k2, t0⟩ := kd_inv (s := s) g1
  refine ⟨g0, ?_⟩
  have hi : i < 10 := (List.getElem?_eq_some_iff.1 k2).1
  obtain ⟨v', w1, w2, _⟩ := vWords_at hi
  obtain rfl : v' = v := Option.some.inj (w1.symm.trans k2)
  clear g0 g1 g2 g3 g4 g5 g6 g7 g8 g9 h k2 w1 hi
  have q0 : s.l = v' ++ 32 :: (vs1 s).l := t0
  have q1 : (vs1 s).l = numL [116, 105, 109, 101, 32] ((nuN [116, 105, 109, 101, 32] 32 (vs1 s) : Nat) : Int) ++ 32 :: (vs2 s).l := t1
  have q2 : (vs2 s).l = numL [116, 120, 110, 32] ((nuN [116, 120, 110, 32] 32 (vs2 s) : Nat) : Int) ++ 32 :: (vs3 s).l := t2
  have q3 : (vs3 s).l = plcL [111, 112, 32] (plN [111, 112, 32] (vs3 s)) ++ 32 :: (vs4 s).l := t3
  have q4 : (vs4 s).l = plcL [119, 105, 116, 110, 101, 115, 115, 32] (plN [119, 105, 116, 110, 101, 115, 115, 32] (vs4 s)) ++ 32 :: (vs5 s).l := t4
  have q5 : (vs5 s).l = ([107, 101, 121, 32] ++ wd (woN [107, 101, 121, 32] (vs5 s))) ++ 32 :: (vs6 s).l := t5
  have q6 : (vs6 s).l = vaL [119, 97, 110, 116, 32] (vaB [119, 97, 110, 116, 32] (vs6 s)) (vaN [119, 97, 110, 116, 32] (vs6 s)) ++ 32 :: (vs7 s).l := t6
  have q7 : (vs7 s).l = vaL [103, 111, 116, 32] (vaB [103, 111, 116, 32] (vs7 s)) (vaN [103, 111, 116, 32] (vs7 s)) ++ 32 :: (vs8 s).l := t7
  have q8 : (vs8 s).l = numL [102, 114, 111, 109, 32] ((nuN [102, 114, 111, 109, 32] 32 (vs8 s) : Nat) : Int) ++ 32 :: (vs9 s).l := t8
  have q9 : (vs9 s).l = numL [116, 111, 32] ((nuN [116, 111, 32] 10 (vs9 s) : Nat) : Int) ++ 10 :: (vsA s).l := t9
  clear t0 t1 t2 t3 t4 t5 t6 t7 t8 t9
  rw [vioL_eq]
  unfold vioM vioR
  dsimp only
  rw [k1, w2, bt_bts, bt_bts, bt_bts, ← q9, ← q8, ← q7, ← q6, ← q5, ← q4, ← q3, ← q2, ← q1]
  exact q0
theorem vsR_app : ∀ (ls : List Vi.Vl) (n m : Nat) (acc : List Vi.Vl) (r : List UInt8), (∀ x ∈ ls, Vi.okV x = true) → ls.length ≤ n → acc.length + ls.length = m → vsR n m acc ⟨ls.flatMap vioL ++ r, false⟩ = (acc ++ ls, ⟨r, false⟩)
  | [], n, m, acc, r, _, _, hm => by
    rw [vsR_stop (fun h => by have := h.1; simp at hm; omega), List.append_nil]
    rfl
  | x :: ls, 0, m, acc, r, _, hn, _ => by simp at hn
  | x :: ls, n + 1, m, acc, r, hx, hn, hm => by
    have hm' : acc.length + (ls.length + 1) = m := hm
    have hn' : ls.length + 1 ≤ n + 1 := hn
    rw [vsR_go ⟨by omega, rfl⟩, List.flatMap_cons, List.append_assoc]
    obtain ⟨a, b⟩ := vio_app (hx x List.mem_cons_self) (ls.flatMap vioL ++ r)
    rw [a, b, vsR_app ls n m (acc ++ [x]) r (fun y hy => hx y (List.mem_cons_of_mem _ hy)) (by omega) (by rw [List.length_append, List.length_singleton]; omega), List.append_assoc]
    rfl
theorem vsR_inv : ∀ (n m : Nat) (acc : List Vi.Vl) (s : Rs), acc.length ≤ m → m ≤ acc.length + n → (vsR n m acc s).2.f = false → s.f = false ∧ ∃ ls, (vsR n m acc s).1 = acc ++ ls ∧ acc.length + ls.length = m ∧ s.l = ls.flatMap vioL ++ (vsR n m acc s).2.l
  | 0, m, acc, s, h1, h2, h => ⟨h, [], (List.append_nil _).symm, by simp; omega, rfl⟩
  | n + 1, m, acc, s, h1, h2, h => by
    by_cases c : acc.length < m ∧ s.f = false
    · rw [vsR_go c] at h ⊢
      obtain ⟨g1, ls, g2, g3, g4⟩ := vsR_inv n m (acc ++ [vioR s]) (vsA s) (by rw [List.length_append, List.length_singleton]; omega) (by rw [List.length_append, List.length_singleton]; omega) h
      obtain ⟨i1, i2⟩ := vio_inv g1
      refine ⟨i1, vioR s :: ls, by rw [g2, List.append_assoc]; rfl, by rw [List.length_append, List.length_singleton] at g3; rw [List.length_cons]; omega, ?_⟩
      rw [List.flatMap_cons, List.append_assoc, ← g4]
      exact i2
    · rw [vsR_stop c] at h ⊢
      have hf : s.f = false := h
      exact ⟨hf, [], (List.append_nil _).symm, by have : ¬ acc.length < m := fun x => c ⟨x, hf⟩; simp; omega, rfl⟩
end Go.Proofs.YtkebdjmmjaipnaaDoor
