/- What is proved: report's reader, plain: the text of a right outcome is read back as that outcome, and a text that is read is the text of the outcome that is read, which is right; no condition. -/
import Derived.Test.YtkebdjmmjaipnaaDoorRoS
import Derived.Test.YtkebdjmmjaipnaaDoorRoM
namespace Go.Proofs.YtkebdjmmjaipnaaDoor
open Go.RowKit

theorem okO_no {o : OuM} (h : okO o = true) : (hc o.kd = false → o.cd = 0) ∧ (ho o.kd = false → o.of = 0) ∧ (ht o.kd = false → o.tn = 0) ∧ (hl o.kd = false → o.tt = 0 ∧ o.ls = []) := by
  have hz : ∀ {th : Bool} {n a b : Int}, fit th n a b = true → th = false → n = 0 := fun {th n a b} h e => by
    subst e
    unfold fit at h
    rw [if_neg (by decide)] at h
    exact eq_of_beq h
  unfold okO at h
  simp only [Bool.and_eq_true, Vi.wi_iff, decide_eq_true_eq] at h
  obtain ⟨⟨⟨⟨⟨⟨h0, h1⟩, h2⟩, h3⟩, h4⟩, h5⟩, h6, h7⟩ := h
  exact ⟨hz h1, hz h2, hz h3, fun e => ⟨hz h4 e, List.eq_nil_of_length_eq_zero (by have := hz h4 e; omega)⟩⟩
def oA5 (o : OuM) (r : List UInt8) : List UInt8 := o.ls.flatMap vioL ++ (footB ++ r)
def oA4 (o : OuM) (r : List UInt8) : List UInt8 := if hl o.kd = true then numL [116, 111, 116, 97, 108, 32] o.tt ++ 10 :: (numL [115, 104, 111, 119, 110, 32] (o.ls.length : Int) ++ 10 :: oA5 o r) else oA5 o r
def oA3 (o : OuM) (r : List UInt8) : List UInt8 := if ht o.kd = true then numL [116, 120, 110, 115, 32] o.tn ++ 10 :: oA4 o r else oA4 o r
def oA2 (o : OuM) (r : List UInt8) : List UInt8 := if ho o.kd = true then numL [111, 102, 102, 115, 101, 116, 32] o.of ++ 10 :: oA3 o r else oA3 o r
def oA1 (o : OuM) (r : List UInt8) : List UInt8 := if hc o.kd = true then numL [99, 111, 100, 101, 32] o.cd ++ 10 :: oA2 o r else oA2 o r
theorem outL_eq (o : OuM) (r : List UInt8) : outL o ++ r = headB ++ (oWord o.kd ++ 10 :: oA1 o r) := by
  unfold outL frontL oA1 oA2 oA3 oA4 oA5
  generalize hc o.kd = b1
  generalize ho o.kd = b2
  generalize ht o.kd = b3
  generalize hl o.kd = b4
  cases b1 <;> cases b2 <;> cases b3 <;> cases b4 <;> simp
theorem oWords_at {i : Nat} (h : i < 9) : ∃ v, oWords[i]? = some v ∧ oWord ((i + 1 : Nat) : Int) = v ∧ v.all (fun b => b != 10) = true := by
  match i, h with
  | 0, _ => exact ⟨_, rfl, rfl, by decide⟩
  | 1, _ => exact ⟨_, rfl, rfl, by decide⟩
  | 2, _ => exact ⟨_, rfl, rfl, by decide⟩
  | 3, _ => exact ⟨_, rfl, rfl, by decide⟩
  | 4, _ => exact ⟨_, rfl, rfl, by decide⟩
  | 5, _ => exact ⟨_, rfl, rfl, by decide⟩
  | 6, _ => exact ⟨_, rfl, rfl, by decide⟩
  | 7, _ => exact ⟨_, rfl, rfl, by decide⟩
  | 8, _ => exact ⟨_, rfl, rfl, by decide⟩
  | n + 9, h => omega
theorem oWords_nodup : oWords.Nodup := by decide
/-- A field that is there or not, written. -/
theorem nu_if {b : Bool} {n : Int} (h0 : 0 ≤ n) (h1 : n < 1000000000000000) (hz : b = false → n = 0) (p r : List UInt8) : (((if b = true then nuN p 10 ⟨if b = true then numL p n ++ 10 :: r else r, false⟩ else 0 : Nat) : Int) = n) ∧ (if b = true then nuT p 10 ⟨if b = true then numL p n ++ 10 :: r else r, false⟩ else ⟨if b = true then numL p n ++ 10 :: r else r, false⟩) = ⟨r, false⟩ := by
  cases b with
  | false => exact ⟨(hz rfl).symm, rfl⟩
  | true =>
    obtain ⟨m, rfl⟩ := Int.eq_ofNat_of_zero_le h0
    obtain ⟨u1, u2⟩ := nuR_app (n := m) (by omega) p (c := 10) (by decide) r
    exact ⟨congrArg Nat.cast u1, u2⟩
theorem out_app {o : OuM} (h : okO o = true) (r : List UInt8) : ouR ⟨outL o ++ r, false⟩ = o ∧ ouT ⟨outL o ++ r, false⟩ = ⟨r, false⟩ := by
  obtain ⟨h0, h1, h2, h3, h4, h5, h6, h7, -⟩ := okO_iff h
  obtain ⟨z1, z2, z3, z4⟩ := okO_no h
  clear h
  obtain ⟨kd, cd, of, tn, tt, ls⟩ := o
  simp only at h0 h1 h2 h3 h4 h5 h6 h7 z1 z2 z3 z4
  obtain ⟨i, rfl⟩ : ∃ i : Nat, kd = ((i + 1 : Nat) : Int) := ⟨(kd - 1).toNat, by omega⟩
  obtain ⟨v, w1, w2, w3⟩ := oWords_at (i := i) (by omega)
  rw [outL_eq]
  dsimp only
  rw [w2]
  obtain ⟨a0, b0⟩ := kd_app (words_ne oWords_nodup w1) w1 w3 (oA1 ⟨((i + 1 : Nat) : Int), cd, of, tn, tt, ls⟩ r)
  have m0 : os0 ⟨headB ++ (v ++ 10 :: oA1 ⟨((i + 1 : Nat) : Int), cd, of, tn, tt, ls⟩ r), false⟩ = ⟨v ++ 10 :: oA1 ⟨((i + 1 : Nat) : Int), cd, of, tn, tt, ls⟩ r, false⟩ := mst_app _ _
  generalize (⟨headB ++ (v ++ 10 :: oA1 ⟨((i + 1 : Nat) : Int), cd, of, tn, tt, ls⟩ r), false⟩ : Rs) = s at *
  have k0 : okd s = i + 1 := by unfold okd; rw [m0]; exact a0
  have s1 : os1 s = ⟨oA1 ⟨((i + 1 : Nat) : Int), cd, of, tn, tt, ls⟩ r, false⟩ := by unfold os1; rw [m0]; exact b0
  clear a0 b0 m0
  obtain ⟨n2, t2⟩ := nu_if h1.1 (by omega) z1 [99, 111, 100, 101, 32] (oA2 ⟨((i + 1 : Nat) : Int), cd, of, tn, tt, ls⟩ r)
  obtain ⟨n3, t3⟩ := nu_if h2.1 (by omega) z2 [111, 102, 102, 115, 101, 116, 32] (oA3 ⟨((i + 1 : Nat) : Int), cd, of, tn, tt, ls⟩ r)
  obtain ⟨n4, t4⟩ := nu_if h3.1 (by omega) z3 [116, 120, 110, 115, 32] (oA4 ⟨((i + 1 : Nat) : Int), cd, of, tn, tt, ls⟩ r)
  have s2 : os2 s = ⟨oA2 ⟨((i + 1 : Nat) : Int), cd, of, tn, tt, ls⟩ r, false⟩ := by unfold os2; rw [k0, s1]; exact t2
  have s3 : os3 s = ⟨oA3 ⟨((i + 1 : Nat) : Int), cd, of, tn, tt, ls⟩ r, false⟩ := by unfold os3; rw [k0, s2]; exact t3
  have s4 : os4 s = ⟨oA4 ⟨((i + 1 : Nat) : Int), cd, of, tn, tt, ls⟩ r, false⟩ := by unfold os4; rw [k0, s3]; exact t4
  have q2 : ((ocd s : Nat) : Int) = cd := by unfold ocd; rw [k0, s1]; exact n2
  have q3 : ((oof s : Nat) : Int) = of := by unfold oof; rw [k0, s2]; exact n3
  have q4 : ((otn s : Nat) : Int) = tn := by unfold otn; rw [k0, s3]; exact n4
  clear n2 n3 n4 t2 t3 t4 s1 s2 s3
  cases hb : hl ((i + 1 : Nat) : Int) with
  | false =>
    obtain ⟨rfl, rfl⟩ := z4 hb
    have e4 : oA4 ⟨((i + 1 : Nat) : Int), cd, of, tn, 0, []⟩ r = footB ++ r := by
      unfold oA4 oA5
      rw [if_neg (by rw [hb]; decide)]
      rfl
    have q5 : ott s = 0 := by unfold ott; rw [k0, if_neg (by rw [hb]; decide)]
    have q6 : olv s = [] := by unfold olv; rw [k0, if_neg (by rw [hb]; decide)]
    have s7 : os7 s = ⟨footB ++ r, false⟩ := by unfold os7; rw [k0, if_neg (by rw [hb]; decide), s4, e4]
    unfold ouR ouT
    rw [k0, q2, q3, q4, q5, q6, s7]
    exact ⟨rfl, mst_app footB r⟩
  | true =>
    obtain ⟨tt, rfl⟩ := Int.eq_ofNat_of_zero_le h4.1
    have e4 : oA4 ⟨((i + 1 : Nat) : Int), cd, of, tn, tt, ls⟩ r = numL [116, 111, 116, 97, 108, 32] (tt : Int) ++ 10 :: (numL [115, 104, 111, 119, 110, 32] (ls.length : Int) ++ 10 :: (ls.flatMap vioL ++ (footB ++ r))) := by
      unfold oA4 oA5
      rw [if_pos hb]
    rw [e4] at s4
    obtain ⟨u1, u2⟩ := nuR_app (n := tt) (by omega) [116, 111, 116, 97, 108, 32] (c := 10) (by decide) (numL [115, 104, 111, 119, 110, 32] (ls.length : Int) ++ 10 :: (ls.flatMap vioL ++ (footB ++ r)))
    obtain ⟨u3, u4⟩ := nuR_app (n := ls.length) (by omega) [115, 104, 111, 119, 110, 32] (c := 10) (by decide) (ls.flatMap vioL ++ (footB ++ r))
    have s5 : os5 s = ⟨numL [115, 104, 111, 119, 110, 32] (ls.length : Int) ++ 10 :: (ls.flatMap vioL ++ (footB ++ r)), false⟩ := by unfold os5; rw [s4]; exact u2
    have s6 : os6 s = ⟨ls.flatMap vioL ++ (footB ++ r), false⟩ := by unfold os6; rw [s5]; exact u4
    have q5 : ott s = tt := by unfold ott; rw [k0, if_pos hb, s4]; exact u1
    have q6 : osh s = ls.length := by unfold osh; rw [s5]; exact u3
    have q7 : oli s = (ls, ⟨footB ++ r, false⟩) := by
      unfold oli
      have e : vsS ls.length ⟨ls.flatMap vioL ++ (footB ++ r), false⟩ = ⟨ls.flatMap vioL ++ (footB ++ r), false⟩ := if_neg (by omega)
      rw [q6, s6, e, vsR_app ls ls.length ls.length [] (footB ++ r) h7 (Nat.le_refl _) (by simp)]
      rfl
    have q8 : olv s = ls := by unfold olv; rw [k0, if_pos hb, q7]
    have s7 : os7 s = ⟨footB ++ r, false⟩ := by unfold os7; rw [k0, if_pos hb, q7]
    unfold ouR ouT
    rw [k0, q2, q3, q4, q5, q8, s7]
    exact ⟨rfl, mst_app footB r⟩
theorem prs_app {o : OuM} (h : okO o = true) : prsT (outL o) = (o, 0) := by
  obtain ⟨e1, e2⟩ := out_app h []
  rw [List.append_nil] at e1 e2
  unfold prsT
  rw [e1, e2, if_neg (show ¬ false = true by decide), if_neg (by simp), if_pos h]
/-- A field that is there or not, read. -/
theorem nu_if_inv {b : Bool} {p : List UInt8} {s : Rs} (h : (if b = true then nuT p 10 s else s).f = false) : s.f = false ∧ s.l = if b = true then numL p ((if b = true then nuN p 10 s else 0 : Nat) : Int) ++ 10 :: (if b = true then nuT p 10 s else s).l else (if b = true then nuT p 10 s else s).l := by
  cases b with
  | false => exact ⟨h, rfl⟩
  | true =>
    obtain ⟨g1, _, g3⟩ := nu_inv (show (nuT p 10 s).f = false from h)
    exact ⟨g1, g3⟩
theorem out_inv {l : List UInt8} (h : (ouT ⟨l, false⟩).f = false) (h2 : (ouT ⟨l, false⟩).l = []) : outL (ouR ⟨l, false⟩) = l := by
  have hl : (⟨l, false⟩ : Rs).l = l := rfl
  rw [← hl]
  clear hl
  generalize (⟨l, false⟩ : Rs) = s at *
  obtain ⟨g7, t7⟩ := mst_inv (s := os7 s) h
  have e7 : (mst footB (os7 s)).l = [] := h2
  rw [e7] at t7
  have q5 : (os4 s).f = false ∧ (os4 s).l = oA4 (ouR s) [] := by
    unfold os7 at g7 t7
    unfold oA4 oA5
    have ek : (ouR s).kd = ((okd s : Nat) : Int) := rfl
    have el : (ouR s).ls = olv s := rfl
    have et : (ouR s).tt = ((ott s : Nat) : Int) := rfl
    rw [ek, el, et]
    unfold olv ott
    by_cases hb : hl (okd s) = true
    · rw [if_pos hb] at g7 t7
      rw [if_pos hb, if_pos hb, if_pos hb]
      unfold oli at g7 t7 ⊢
      have hsm : ¬ 10000 < osh s := fun hbig => by
        have e : vsS (osh s) (os6 s) = ⟨(os6 s).l, true⟩ := if_pos hbig
        rw [e, vsR_stop (by simp)] at g7
        cases g7
      have e : vsS (osh s) (os6 s) = os6 s := if_neg hsm
      rw [e] at g7 t7 ⊢
      obtain ⟨i1, ls, i2, i3, i4⟩ := vsR_inv (osh s) (osh s) [] (os6 s) (Nat.zero_le _) (by simp) g7
      rw [List.nil_append] at i2
      rw [i2]
      have i3' : ls.length = osh s := by simpa using i3
      obtain ⟨j1, _, j3⟩ := nu_inv (s := os5 s) i1
      obtain ⟨k1, _, k3⟩ := nu_inv (s := os4 s) j1
      have j3' : (os5 s).l = numL [115, 104, 111, 119, 110, 32] ((osh s : Nat) : Int) ++ 10 :: (os6 s).l := j3
      have k3' : (os4 s).l = numL [116, 111, 116, 97, 108, 32] ((nuN [116, 111, 116, 97, 108, 32] 10 (os4 s) : Nat) : Int) ++ 10 :: (os5 s).l := k3
      refine ⟨k1, ?_⟩
      rw [i3', ← t7, ← i4, ← j3']
      exact k3'
    · rw [if_neg hb] at g7 t7
      rw [if_neg hb, if_neg hb]
      refine ⟨g7, ?_⟩
      rw [t7]
      rfl
  obtain ⟨g4, t4⟩ := q5
  obtain ⟨g3, t3⟩ := nu_if_inv (b := ht (okd s)) (s := os3 s) g4
  obtain ⟨g2, t2⟩ := nu_if_inv (b := ho (okd s)) (s := os2 s) g3
  obtain ⟨g1, t1⟩ := nu_if_inv (b := hc (okd s)) (s := os1 s) g2
  obtain ⟨g0, i, v, k1, k2, t0⟩ := kd_inv (s := os0 s) g1
  obtain ⟨_, th⟩ := mst_inv (s := s) g0
  have p3 : (os3 s).l = oA3 (ouR s) [] := by
    unfold oA3
    rw [← t4]
    exact t3
  have p2 : (os2 s).l = oA2 (ouR s) [] := by
    unfold oA2
    rw [← p3]
    exact t2
  have p1 : (os1 s).l = oA1 (ouR s) [] := by
    unfold oA1
    rw [← p2]
    exact t1
  have hi : i < 9 := (List.getElem?_eq_some_iff.1 k2).1
  obtain ⟨v', w1, w2, _⟩ := oWords_at hi
  obtain rfl : v' = v := Option.some.inj (w1.symm.trans k2)
  have ek : (ouR s).kd = ((i + 1 : Nat) : Int) := by show ((okd s : Nat) : Int) = _; unfold okd; rw [k1]
  have t0' : (os0 s).l = v' ++ 10 :: (os1 s).l := t0
  have th' : s.l = headB ++ (os0 s).l := th
  rw [← List.append_nil (outL (ouR s)), outL_eq, ek, w2, ← p1, ← t0', ← th']
theorem prs_inv {l : List UInt8} (h : (prsT l).2 = 0) : okO (prsT l).1 = true ∧ outL (prsT l).1 = l := by
  unfold prsT at h ⊢
  by_cases c1 : (ouT ⟨l, false⟩).f = true
  · rw [if_pos c1] at h
    cases h
  · rw [if_neg c1] at h ⊢
    by_cases c2 : (ouT ⟨l, false⟩).l ≠ []
    · rw [if_pos c2] at h
      cases h
    · rw [if_neg c2] at h ⊢
      by_cases c3 : okO (ouR ⟨l, false⟩) = true
      · rw [if_pos c3]
        exact ⟨c3, out_inv (by simpa using c1) (by simpa using c2)⟩
      · rw [if_neg c3] at h
        cases h
theorem prs_no {l : List UInt8} (h : (prsT l).2 ≠ 0) : prsT l = (ou00, 220) := by
  unfold prsT at h ⊢
  by_cases c1 : (ouT ⟨l, false⟩).f = true
  · rw [if_pos c1]
  · rw [if_neg c1] at h ⊢
    by_cases c2 : (ouT ⟨l, false⟩).l ≠ []
    · rw [if_pos c2]
    · rw [if_neg c2] at h ⊢
      by_cases c3 : okO (ouR ⟨l, false⟩) = true
      · rw [if_pos c3] at h
        exact absurd rfl h
      · rw [if_neg c3]
theorem prs_more {o : OuM} (h : okO o = true) {r : List UInt8} (hr : r ≠ []) : prsT (outL o ++ r) = (ou00, 220) := by
  obtain ⟨e1, e2⟩ := out_app h r
  unfold prsT
  rw [e1, e2, if_neg (show ¬ false = true by decide), if_pos hr]
/-- A text that is read, cut short, is none. -/
theorem prs_cut {o : OuM} (h : okO o = true) {k : Nat} (hk : k < (outL o).length) : prsT ((outL o).take k) = (ou00, 220) := by
  by_cases e : (prsT ((outL o).take k)).2 = 0
  · obtain ⟨h1, h2⟩ := prs_inv e
    have h3 : outL o = outL (prsT ((outL o).take k)).1 ++ (outL o).drop k := by
      rw [h2, List.take_append_drop]
    have h4 := prs_more h1 (r := (outL o).drop k) (fun e => by have := congrArg List.length e; rw [List.length_drop] at this; simp at this; omega)
    rw [← h3, prs_app h] at h4
    have h5 : (0 : Int) = 220 := congrArg Prod.snd h4
    exact absurd h5 (by decide)
  · exact prs_no e
end Go.Proofs.YtkebdjmmjaipnaaDoor
