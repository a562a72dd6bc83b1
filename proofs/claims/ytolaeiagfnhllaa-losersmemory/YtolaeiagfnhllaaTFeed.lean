/- What is proved: what Feed, Finish and Win of a tree answer and leave; the tree is one that New made. -/
import Derived.Test.YtolaeiagfnhllaaTNew
namespace Go.Proofs.Ytolaeiagfnhllaa
open Go.RowKit

/-- What Feed answers, and the sources behind it. -/
def feedC (S : List Sr) (i : Int) (r : RwM) : Int := if refC S i ≠ 0 then refC S i else if rightR r then 0 else 90
def feedS (S : List Sr) (i : Int) (r : RwM) : List Sr := if feedC S i r = 0 then S.set i.toNat (.fed r) else S
def finS (S : List Sr) (i : Int) : List Sr := if refC S i = 0 then S.set i.toNat .fin else S
theorem refC_zero {S : List Sr} {i : Int} (h : refC S i = 0) : ∃ n : Nat, i = (n : Int) ∧ n < S.length ∧ (S.getD n .wait).wt = true := by
  unfold refC at h
  by_cases h1 : i < 0 ∨ (S.length : Int) ≤ i
  · rw [if_pos h1] at h; omega
  · rw [if_neg h1] at h
    refine ⟨i.toNat, by omega, by omega, ?_⟩
    cases hw : (S.getD i.toNat .wait).wt
    · rw [hw, if_neg (by decide)] at h; omega
    · rfl
theorem refC_range (S : List Sr) (i : Int) : refC S i = 0 ∨ refC S i = 111 ∨ refC S i = 112 := by
  unfold refC
  by_cases h1 : i < 0 ∨ (S.length : Int) ≤ i
  · rw [if_pos h1]; omega
  · rw [if_neg h1]
    cases (S.getD i.toNat .wait).wt
    · rw [if_neg (by decide)]; omega
    · rw [if_pos rfl]; omega
set_option maxRecDepth 100000 in
set_option maxHeartbeats 1600000 in
theorem feed11 {w : World} {b gs gn : Nat} {order : Int} {S : List Sr} (h : Tn w b gs gn order S) (i : Int) (r : RwM) :
    Calls Try.prog 18 #[.pointer (some ⟨b, 0, none⟩), .int .i64 i, rowV r] w fun e w' => e = .returned (.int .i64 (feedC S i r)) ∧ Tn w' b gs gn order (feedS S i r) ∧ Same (Ft b gs gn) w w' := by
  have HH : Hid _ := h
  have HV : Hid (∀ W, _) := fun W => valid9_any r W
  have HBX : Hid _ := heap_new w (.cells #[.int .i64 r.kind, .int .i64 r.time, .int .i64 r.seq, .int .i64 r.index, .int .i64 r.frm, .int .i64 r.til, .string r.body] 32)
  have KB : Hid (Kept w (w.alloc (.cells #[.int .i64 r.kind, .int .i64 r.time, .int .i64 r.seq, .int .i64 r.index, .int .i64 r.frm, .int .i64 r.til, .string r.body] 32))) := (Same.refl _ w).alloc _
  have HR : Hid (∀ W, Kept w W → Calls Try.prog 30 #[.pointer (some ⟨b, 0, none⟩), .int .i64 i] W fun e w' => e = .returned (.int .i64 (refC S i)) ∧ w' = W) := fun W k => by
    obtain ⟨nd, tr, -⟩ := h.on k
    exact refuses11 tr i
  by_cases h1 : refC S i = 0
  · obtain ⟨n, rfl, hn, hw⟩ := refC_zero h1
    rw [h1] at HR
    by_cases hr : rightR r
    · have ef : feedC S n r = 0 := by unfold feedC; rw [if_neg (fun e => e h1), if_pos hr]
      have es : feedS S n r = S.set n (.fed r) := by unfold feedS; rw [if_pos ef]; rfl
      rw [ef, es]
      rw [decide_eq_true hr] at HV
      have HE : Hid (∀ W, Kept w W → Calls Try.prog 32 #[.pointer (some ⟨b, 0, none⟩), .int .i64 n, srcV (.fed r)] W fun e w' => e = .returned (.tuple #[]) ∧ Tn w' b gs gn order (S.set n (.fed r)) ∧ Same (Ft b gs gn) w w') := fun W k => by
        obtain ⟨nd, tr, ht⟩ := h.on k
        exact Calls.mono (enter11 tr ht hn hw (s := .fed r) rfl) fun e w' ⟨h1, nd', h2, h3, h4⟩ => ⟨h1, ⟨nd', h2, h3⟩, (k.to _).trans' h4⟩
      generalize S.set n (.fed r) = S' at *
      clear h h1 hn hw hr ef es
      obtain ⟨kind, time, seq, index, frm, til, body⟩ := r
      unfold rowV srcV at *
      simp only [Sr.code, Sr.row] at *
      go_enter Try.func18, Try.ntmps18
      go_wp2_with fail
      refine Calls.mono (HR.out _ KB.out) ?_
      rintro e w1 ⟨rfl, rfl⟩
      go_wp2_with fail
      refine Calls.mono (HV.out _) ?_
      rintro e w1 ⟨rfl, k1⟩
      have K1 : Hid _ := KB.out.trans' k1
      have hb1 := (k1.block _ (lt_of_heap HBX.out) (fun e => e)).trans HBX.out
      obtain ⟨⟨y0, y1, y2, y3, y4, y5, y6⟩, -⟩ := row_obj hb1
      clear k1 HV HBX hb1
      go_wp2_with fail
      refine Calls.mono (HE.out _ K1.out) ?_
      rintro e w2 ⟨rfl, t2, k2⟩
      have R : Hid _ := (⟨t2, k2⟩ : _ ∧ _)
      clear t2 k2
      go_wp2_with fail
      go_ret
      exact ⟨rfl, R.out⟩
    · have ef : feedC S n r = 90 := by unfold feedC; rw [if_neg (fun e => e h1), if_neg hr]
      have es : feedS S n r = S := by unfold feedS; rw [if_neg (by rw [ef]; decide)]
      rw [ef, es]
      rw [decide_eq_false hr] at HV
      clear h h1 hn hw hr ef es
      obtain ⟨kind, time, seq, index, frm, til, body⟩ := r
      unfold rowV at *
      simp only at *
      go_enter Try.func18, Try.ntmps18
      go_wp2_with fail
      refine Calls.mono (HR.out _ KB.out) ?_
      rintro e w1 ⟨rfl, rfl⟩
      go_wp2_with fail
      refine Calls.mono (HV.out _) ?_
      rintro e w1 ⟨rfl, k1⟩
      have K1 : Hid _ := KB.out.trans' k1
      clear k1 HV HBX
      go_wp2_with fail
      go_ret
      exact ⟨rfl, Tn.on HH.out K1.out, Kept.to K1.out _⟩
  · have ef : feedC S i r = refC S i := by unfold feedC; rw [if_pos h1]
    have es : feedS S i r = S := by unfold feedS; rw [if_neg (by rw [ef]; exact h1)]
    rw [ef, es]
    have d1 : (refC S i != 0) = true := by simpa using h1
    generalize refC S i = c at *
    clear h h1 ef es
    obtain ⟨kind, time, seq, index, frm, til, body⟩ := r
    unfold rowV at *
    simp only at *
    go_enter Try.func18, Try.ntmps18
    go_wp2_with fail
    refine Calls.mono (HR.out _ KB.out) ?_
    rintro e w1 ⟨rfl, rfl⟩
    go_wp2_with fail
    go_ret
    exact ⟨rfl, Tn.on HH.out KB.out, Kept.to KB.out _⟩
set_option maxRecDepth 100000 in
set_option maxHeartbeats 1600000 in
theorem finish11 {w : World} {b gs gn : Nat} {order : Int} {S : List Sr} (h : Tn w b gs gn order S) (i : Int) :
    Calls Try.prog 21 #[.pointer (some ⟨b, 0, none⟩), .int .i64 i] w fun e w' => e = .returned (.int .i64 (refC S i)) ∧ Tn w' b gs gn order (finS S i) ∧ Same (Ft b gs gn) w w' := by
  have HH : Hid _ := h
  have HR : Hid (Calls Try.prog 30 #[.pointer (some ⟨b, 0, none⟩), .int .i64 i] w fun e w' => e = .returned (.int .i64 (refC S i)) ∧ w' = w) := by
    obtain ⟨nd, tr, -⟩ := h
    exact refuses11 tr i
  by_cases h1 : refC S i = 0
  · obtain ⟨n, rfl, hn, hw⟩ := refC_zero h1
    have es : finS S n = S.set n .fin := by unfold finS; rw [if_pos h1]; rfl
    rw [es, h1]
    rw [h1] at HR
    have HE : Hid (Calls Try.prog 32 #[.pointer (some ⟨b, 0, none⟩), .int .i64 n, srcV .fin] w fun e w' => e = .returned (.tuple #[]) ∧ Tn w' b gs gn order (S.set n .fin) ∧ Same (Ft b gs gn) w w') := by
      obtain ⟨nd, tr, ht⟩ := h
      exact Calls.mono (enter11 tr ht hn hw (s := .fin) rfl) fun e w' ⟨h1, nd', h2, h3, h4⟩ => ⟨h1, ⟨nd', h2, h3⟩, h4⟩
    generalize S.set n .fin = S' at *
    clear h h1 hn hw es
    unfold srcV at HE
    simp only [Sr.code, Sr.row, r0] at HE
    go_enter Try.func21, Try.ntmps21
    go_wp2_with fail
    refine Calls.mono HR.out ?_
    rintro e w1 ⟨rfl, rfl⟩
    go_wp2_with fail
    refine Calls.mono HE.out ?_
    rintro e w2 ⟨rfl, t2, k2⟩
    have R : Hid _ := (⟨t2, k2⟩ : _ ∧ _)
    clear t2 k2
    go_wp2_with fail
    go_ret
    exact ⟨rfl, R.out⟩
  · have es : finS S i = S := by unfold finS; rw [if_neg h1]
    rw [es]
    have d1 : (refC S i != 0) = true := by simpa using h1
    generalize refC S i = c at *
    clear h h1 es
    go_enter Try.func21, Try.ntmps21
    go_wp2_with fail
    refine Calls.mono HR.out ?_
    rintro e w1 ⟨rfl, rfl⟩
    go_wp2_with fail
    go_ret
    exact ⟨rfl, HH.out, Same.refl _ _⟩
end Go.Proofs.Ytolaeiagfnhllaa
