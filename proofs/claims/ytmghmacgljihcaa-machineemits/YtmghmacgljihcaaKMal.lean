/- What is proved: operates, malformed and untimely tell what the document says of a step; the machine lies in memory. -/
import Derived.Test.YtmghmacgljihcaaKMem
namespace Go.Proofs.Ytmghmacgljihcaa
open Go.RowKit

/-- A step as a value. -/
def stV (s : Stp) : Value := .agg #[.int .i64 s.kind, .int .i64 s.ses, .int .i64 s.gap, .string s.key, .string s.value]
def isOb (s : Stp) : Bool := decide (isO s)
set_option maxRecDepth 100000 in
set_option maxHeartbeats 800000 in
theorem operates15 (w : World) (s : Stp) : Calls Try.prog 40 #[.agg #[.int .i64 s.kind, .int .i64 s.ses, .int .i64 s.gap, .string s.key, .string s.value]] w fun e w' => e = .returned (.bool (isOb s)) ∧ Kept w w' := by
  have K0 : Hid (Kept w (w.alloc (.cells #[.int .i64 s.kind, .int .i64 s.ses, .int .i64 s.gap, .string s.key, .string s.value] 32 (0, 0)))) := (Same.refl _ _).alloc _
  by_cases h2 : s.kind = 2
  · have e : isOb s = true := decide_eq_true (.inl h2)
    have f : (s.kind == 2) = true := by simpa using h2
    rw [e]
    clear h2
    go_enter Try.func40, Try.ntmps40
    go_wp2_with fail
    go_ret
    exact ⟨rfl, K0.out⟩
  · by_cases h3 : s.kind = 3
    · have e : isOb s = true := decide_eq_true (.inr (.inl h3))
      have f : (s.kind == 2) = false := by simpa using h2
      have f3 : (s.kind == 3) = true := by simpa using h3
      rw [e]
      clear h2 h3
      go_enter Try.func40, Try.ntmps40
      go_wp2_with fail
      go_ret
      exact ⟨rfl, K0.out⟩
    · have f : (s.kind == 2) = false := by simpa using h2
      have f3 : (s.kind == 3) = false := by simpa using h3
      by_cases h4 : s.kind = 4
      · have e : isOb s = true := decide_eq_true (.inr (.inr h4))
        have f4 : (s.kind == 4) = true := by simpa using h4
        rw [e]
        clear h2 h3 h4
        go_enter Try.func40, Try.ntmps40
        go_wp2_with fail
        go_ret
        exact ⟨rfl, K0.out⟩
      · have e : isOb s = false := decide_eq_false fun h => by rcases h with h | h | h <;> contradiction
        have f4 : (s.kind == 4) = false := by simpa using h4
        rw [e]
        clear h2 h3 h4
        go_enter Try.func40, Try.ntmps40
        go_wp2_with fail
        go_ret
        exact ⟨rfl, K0.out⟩
set_option maxRecDepth 100000 in
set_option maxHeartbeats 3200000 in
theorem malformed15 {tg : Nat → Tg} {w : World} {mb sb vb : Nat} {lv : Value} {P : Nat → Option Nat} {L : List (TxM × Value)} {M : Mm} (h : Mi tg w mb sb vb lv P L M) (_ : M.ses.length ≤ 64) (s : Stp) (hk : s.key.size ≤ maxLen) (hv : s.value.size ≤ maxLen) :
    Calls Try.prog 32 #[.pointer (some ⟨mb, 0, none⟩), .agg #[.int .i64 s.kind, .int .i64 s.ses, .int .i64 s.gap, .string s.key, .string s.value]] w fun e w' => e = .returned (.int .i64 (codeB M.ses.length s)) ∧ Kept w w' := by
  have K0 : Hid (Kept w (w.alloc (.cells #[.int .i64 s.kind, .int .i64 s.ses, .int .i64 s.gap, .string s.key, .string s.value] 32 (0, 0)))) := (Same.refl _ _).alloc _
  have HG : Hid _ := heap_new w (.cells #[.int .i64 s.kind, .int .i64 s.ses, .int .i64 s.gap, .string s.key, .string s.value] 32 (0, 0))
  obtain ⟨hmb, ⟨-, -, -, c3, -, -⟩, -⟩ := Mi.cells (h.on K0.out)
  have HOP : Hid (∀ W, _) := fun W => operates15 W s
  clear h
  generalize M.ses.length = n at *
  have hks : (s.key.size : Int) ≤ 9223372036854775807 := by unfold maxLen at hk; omega
  have hvs : (s.value.size : Int) ≤ 9223372036854775807 := by unfold maxLen at hv; omega
  clear hk hv
  generalize hcd : codeB n s = cd
  have HCD : Hid (codeB n s = cd) := hcd
  clear hcd
  go_enter Try.func32, Try.ntmps32
  go_upto_region 1 with fail
  generalize w.alloc (.cells #[.int .i64 s.kind, .int .i64 s.ses, .int .i64 s.gap, .string s.key, .string s.value] 32 (0, 0)) = W at *
  generalize w.heap.size = g at *
  have hgl := lt_of_heap HG.out
  have x0 : W.cell? ⟨g, 0, none⟩ = some (.int .i64 s.kind) := (cell_of HG.out 0).trans rfl
  have x1 : W.cell? ⟨g, 1, none⟩ = some (.int .i64 s.ses) := (cell_of HG.out 1).trans rfl
  have x2 : W.cell? ⟨g, 2, none⟩ = some (.int .i64 s.gap) := (cell_of HG.out 2).trans rfl
  have x3 : W.cell? ⟨g, 3, none⟩ = some (.string s.key) := (cell_of HG.out 3).trans rfl
  have x4 : W.cell? ⟨g, 4, none⟩ = some (.string s.value) := (cell_of HG.out 4).trans rfl
  clear HG
  by_cases h1 : s.kind < 1 ∨ 6 < s.kind
  · have EC : Hid (cd = 151) := by rw [← show codeB n s = cd from HCD.out]; show codeB n s = 151; unfold codeB; rw [if_pos h1]
    rcases Classical.em (s.kind < 1) with h2 | h2
    · have f1 : decide (s.kind < 1) = true := decide_eq_true h2
      clear h1
      go_wp2_with fail
      go_ret
      exact ⟨by rw [show cd = _ from EC.out]; rfl, K0.out⟩
    · have f1 : decide (s.kind < 1) = false := decide_eq_false h2
      have h3 : 6 < s.kind := by omega
      have f2 : decide (6 < s.kind) = true := decide_eq_true h3
      clear h1
      go_wp2_with fail
      go_ret
      exact ⟨by rw [show cd = _ from EC.out]; rfl, K0.out⟩
  have a1 : ¬ s.kind < 1 := fun h => h1 (.inl h)
  have a2 : ¬ 6 < s.kind := fun h => h1 (.inr h)
  have f1 : decide (s.kind < 1) = false := decide_eq_false a1
  have f2 : decide (6 < s.kind) = false := decide_eq_false a2
  by_cases h2 : s.ses < 0 ∨ (n : Int) ≤ s.ses
  · have EC : Hid (cd = 152) := by rw [← show codeB n s = cd from HCD.out]; show codeB n s = 152; unfold codeB; rw [if_neg h1, if_pos h2]
    rcases Classical.em (s.ses < 0) with h3 | h3
    · have f3 : decide (s.ses < 0) = true := decide_eq_true h3
      clear h1 h2
      go_wp2_with fail
      go_quiet (fail)
      go_wp2_with fail
      go_ret
      exact ⟨by rw [show cd = _ from EC.out]; rfl, (K0.out : Kept _ _).drewN _⟩
    · have f3 : decide (s.ses < 0) = false := decide_eq_false h3
      have h4 : (n : Int) ≤ s.ses := by omega
      have f4 : decide ((n : Int) ≤ s.ses) = true := decide_eq_true h4
      clear h1 h2
      go_wp2_with fail
      go_quiet (fail)
      go_wp2_with fail
      go_ret
      exact ⟨by rw [show cd = _ from EC.out]; rfl, (K0.out : Kept _ _).drewN _⟩
  have b1 : ¬ s.ses < 0 := fun h => h2 (.inl h)
  have b2 : ¬ (n : Int) ≤ s.ses := fun h => h2 (.inr h)
  have f3 : decide (s.ses < 0) = false := decide_eq_false b1
  have f4 : decide ((n : Int) ≤ s.ses) = false := decide_eq_false b2
  have DONE : Hid (cd = if s.gap < 0 ∨ 1000 < s.gap then 153 else if isO s ∧ (s.key.size = 0 ∨ 8 < s.key.size) then 130 else if s.kind = 3 ∧ 16 < s.value.size then 157 else 0) := by
    show cd = _
    rw [← show codeB n s = cd from HCD.out]
    unfold codeB
    rw [if_neg h1, if_neg h2]
  clear h1 h2 HCD
  go_upto_region 3 with fail
  go_quiet (fail)
  have KD0 : Hid _ := fun m => Same.drewN (w' := W) (K0.out : Kept w W) m
  have CD0 : Hid (∀ m, (W.drewN m).cell? ⟨g, 0, none⟩ = some (.int .i64 s.kind) ∧ (W.drewN m).cell? ⟨g, 1, none⟩ = some (.int .i64 s.ses) ∧ (W.drewN m).cell? ⟨g, 2, none⟩ = some (.int .i64 s.gap) ∧ (W.drewN m).cell? ⟨g, 3, none⟩ = some (.string s.key) ∧ (W.drewN m).cell? ⟨g, 4, none⟩ = some (.string s.value) ∧ g < (W.drewN m).heap.size) := fun m => ⟨x0, x1, x2, x3, x4, hgl⟩
  clear x0 x1 x2 x3 x4 hgl c3 hmb
  go_upto_region 5 with fail
  generalize hWd : W.drewN _ = WD
  obtain ⟨x0, x1, x2, x3, x4, hgl⟩ : WD.cell? ⟨g, 0, none⟩ = some (.int .i64 s.kind) ∧ WD.cell? ⟨g, 1, none⟩ = some (.int .i64 s.ses) ∧ WD.cell? ⟨g, 2, none⟩ = some (.int .i64 s.gap) ∧ WD.cell? ⟨g, 3, none⟩ = some (.string s.key) ∧ WD.cell? ⟨g, 4, none⟩ = some (.string s.value) ∧ g < WD.heap.size := by rw [← hWd]; exact CD0.out _
  have KD : Hid (Kept w WD) := by show Kept w WD; rw [← hWd]; exact KD0.out _
  clear hWd KD0 CD0
  by_cases h3 : s.gap < 0 ∨ 1000 < s.gap
  · have EC : Hid (cd = 153) := (show cd = _ from DONE.out).trans (if_pos h3)
    rcases Classical.em (s.gap < 0) with h4 | h4
    · have f5 : decide (s.gap < 0) = true := decide_eq_true h4
      clear h3
      go_wp2_with fail
      go_ret
      exact ⟨by rw [show cd = _ from EC.out]; rfl, KD.out⟩
    · have f5 : decide (s.gap < 0) = false := decide_eq_false h4
      have h5 : 1000 < s.gap := by omega
      have f6 : decide (1000 < s.gap) = true := decide_eq_true h5
      clear h3
      go_wp2_with fail
      go_ret
      exact ⟨by rw [show cd = _ from EC.out]; rfl, KD.out⟩
  have d1 : ¬ s.gap < 0 := fun h => h3 (.inl h)
  have d2 : ¬ 1000 < s.gap := fun h => h3 (.inr h)
  have f5 : decide (s.gap < 0) = false := decide_eq_false d1
  have f6 : decide (1000 < s.gap) = false := decide_eq_false d2
  by_cases ho : isO s
  · have eo : isOb s = true := decide_eq_true ho
    rw [eo] at HOP
    by_cases hk0 : s.key.size = 0
    · have EC : Hid (cd = 130) := (show cd = _ from DONE.out).trans (by rw [if_neg h3, if_pos ⟨ho, .inl hk0⟩])
      have e0 : s.key.toList.isEmpty = true := (empty_iff s.key).2 hk0
      clear h3 ho eo hk0 DONE
      go_wp2_with fail
      refine Calls.mono (HOP.out _) ?_
      rintro r w1 ⟨rfl, k1⟩
      have K1 : Hid (Kept w w1) := Same.trans' KD.out k1
      have hgl1 := Nat.lt_of_lt_of_le hgl k1.size
      have y3 : w1.cell? ⟨g, 3, none⟩ = some (.string s.key) := (k1.cell (p := ⟨g, 3, none⟩) hgl (fun e => e)).trans x3
      have y0 : w1.cell? ⟨g, 0, none⟩ = some (.int .i64 s.kind) := (k1.cell (p := ⟨g, 0, none⟩) hgl (fun e => e)).trans x0
      have y4 : w1.cell? ⟨g, 4, none⟩ = some (.string s.value) := (k1.cell (p := ⟨g, 4, none⟩) hgl (fun e => e)).trans x4
      clear k1
      go_wp2_with fail
      go_ret
      exact ⟨by rw [show cd = _ from EC.out]; rfl, K1.out⟩
    have e0 : s.key.toList.isEmpty = false := empty_false hk0
    by_cases hk8 : 8 < s.key.size
    · have EC : Hid (cd = 130) := (show cd = _ from DONE.out).trans (by rw [if_neg h3, if_pos ⟨ho, .inr hk8⟩])
      have e1 : (8 : Int) < (s.key.size : Int) := by omega
      have e2 : decide ((8 : Int) < (s.key.size : Int)) = true := decide_eq_true e1
      clear h3 ho eo hk0 hk8 DONE
      go_wp2_with fail
      refine Calls.mono (HOP.out _) ?_
      rintro r w1 ⟨rfl, k1⟩
      have K1 : Hid (Kept w w1) := Same.trans' KD.out k1
      have hgl1 := Nat.lt_of_lt_of_le hgl k1.size
      have y3 : w1.cell? ⟨g, 3, none⟩ = some (.string s.key) := (k1.cell (p := ⟨g, 3, none⟩) hgl (fun e => e)).trans x3
      have y0 : w1.cell? ⟨g, 0, none⟩ = some (.int .i64 s.kind) := (k1.cell (p := ⟨g, 0, none⟩) hgl (fun e => e)).trans x0
      have y4 : w1.cell? ⟨g, 4, none⟩ = some (.string s.value) := (k1.cell (p := ⟨g, 4, none⟩) hgl (fun e => e)).trans x4
      clear k1
      go_wp2_with fail
      go_ret
      exact ⟨by rw [show cd = _ from EC.out]; rfl, K1.out⟩
    have e1 : ¬ (8 : Int) < (s.key.size : Int) := by omega
    have e2 : decide ((8 : Int) < (s.key.size : Int)) = false := decide_eq_false e1
    have hno : ¬ (isO s ∧ (s.key.size = 0 ∨ 8 < s.key.size)) := fun h => by rcases h.2 with h | h <;> contradiction
    by_cases h33 : s.kind = 3
    · have g1 : (s.kind == 3) = true := by simpa using h33
      by_cases hv16 : 16 < s.value.size
      · have EC : Hid (cd = 157) := (show cd = _ from DONE.out).trans (by rw [if_neg h3, if_neg hno, if_pos ⟨h33, hv16⟩])
        have e3 : (16 : Int) < (s.value.size : Int) := by omega
        have e4 : decide ((16 : Int) < (s.value.size : Int)) = true := decide_eq_true e3
        clear h3 ho eo hk0 hk8 DONE hno h33 hv16
        go_wp2_with fail
        refine Calls.mono (HOP.out _) ?_
        rintro r w1 ⟨rfl, k1⟩
        have K1 : Hid (Kept w w1) := Same.trans' KD.out k1
        have hgl1 := Nat.lt_of_lt_of_le hgl k1.size
        have y3 : w1.cell? ⟨g, 3, none⟩ = some (.string s.key) := (k1.cell (p := ⟨g, 3, none⟩) hgl (fun e => e)).trans x3
        have y0 : w1.cell? ⟨g, 0, none⟩ = some (.int .i64 s.kind) := (k1.cell (p := ⟨g, 0, none⟩) hgl (fun e => e)).trans x0
        have y4 : w1.cell? ⟨g, 4, none⟩ = some (.string s.value) := (k1.cell (p := ⟨g, 4, none⟩) hgl (fun e => e)).trans x4
        clear k1
        go_wp2_with fail
        go_ret
        exact ⟨by rw [show cd = _ from EC.out]; rfl, K1.out⟩
      · have EC : Hid (cd = 0) := (show cd = _ from DONE.out).trans (by rw [if_neg h3, if_neg hno, if_neg (fun h => hv16 h.2)])
        have e3 : ¬ (16 : Int) < (s.value.size : Int) := by omega
        have e4 : decide ((16 : Int) < (s.value.size : Int)) = false := decide_eq_false e3
        clear h3 ho eo hk0 hk8 DONE hno h33 hv16
        go_wp2_with fail
        refine Calls.mono (HOP.out _) ?_
        rintro r w1 ⟨rfl, k1⟩
        have K1 : Hid (Kept w w1) := Same.trans' KD.out k1
        have hgl1 := Nat.lt_of_lt_of_le hgl k1.size
        have y3 : w1.cell? ⟨g, 3, none⟩ = some (.string s.key) := (k1.cell (p := ⟨g, 3, none⟩) hgl (fun e => e)).trans x3
        have y0 : w1.cell? ⟨g, 0, none⟩ = some (.int .i64 s.kind) := (k1.cell (p := ⟨g, 0, none⟩) hgl (fun e => e)).trans x0
        have y4 : w1.cell? ⟨g, 4, none⟩ = some (.string s.value) := (k1.cell (p := ⟨g, 4, none⟩) hgl (fun e => e)).trans x4
        clear k1
        go_wp2_with fail
        go_ret
        exact ⟨by rw [show cd = _ from EC.out]; rfl, K1.out⟩
    · have g1 : (s.kind == 3) = false := by simpa using h33
      have EC : Hid (cd = 0) := (show cd = _ from DONE.out).trans (by rw [if_neg h3, if_neg hno, if_neg (fun h => h33 h.1)])
      clear h3 ho eo hk0 hk8 DONE hno h33
      go_wp2_with fail
      refine Calls.mono (HOP.out _) ?_
      rintro r w1 ⟨rfl, k1⟩
      have K1 : Hid (Kept w w1) := Same.trans' KD.out k1
      have hgl1 := Nat.lt_of_lt_of_le hgl k1.size
      have y3 : w1.cell? ⟨g, 3, none⟩ = some (.string s.key) := (k1.cell (p := ⟨g, 3, none⟩) hgl (fun e => e)).trans x3
      have y0 : w1.cell? ⟨g, 0, none⟩ = some (.int .i64 s.kind) := (k1.cell (p := ⟨g, 0, none⟩) hgl (fun e => e)).trans x0
      have y4 : w1.cell? ⟨g, 4, none⟩ = some (.string s.value) := (k1.cell (p := ⟨g, 4, none⟩) hgl (fun e => e)).trans x4
      clear k1
      go_wp2_with fail
      go_ret
      exact ⟨by rw [show cd = _ from EC.out]; rfl, K1.out⟩
  · have eo : isOb s = false := decide_eq_false ho
    rw [eo] at HOP
    have h33 : ¬ s.kind = 3 := fun h => ho (.inr (.inl h))
    have g1 : (s.kind == 3) = false := by simpa using h33
    have EC : Hid (cd = 0) := (show cd = _ from DONE.out).trans (by rw [if_neg h3, if_neg (fun h => ho h.1), if_neg (fun h => h33 h.1)])
    clear h3 ho eo DONE h33
    go_wp2_with fail
    refine Calls.mono (HOP.out _) ?_
    rintro r w1 ⟨rfl, k1⟩
    have K1 : Hid (Kept w w1) := Same.trans' KD.out k1
    have hgl1 := Nat.lt_of_lt_of_le hgl k1.size
    have y3 : w1.cell? ⟨g, 3, none⟩ = some (.string s.key) := (k1.cell (p := ⟨g, 3, none⟩) hgl (fun e => e)).trans x3
    have y0 : w1.cell? ⟨g, 0, none⟩ = some (.int .i64 s.kind) := (k1.cell (p := ⟨g, 0, none⟩) hgl (fun e => e)).trans x0
    have y4 : w1.cell? ⟨g, 4, none⟩ = some (.string s.value) := (k1.cell (p := ⟨g, 4, none⟩) hgl (fun e => e)).trans x4
    clear k1
    go_wp2_with fail
    go_ret
    exact ⟨by rw [show cd = _ from EC.out]; rfl, K1.out⟩
end Go.Proofs.Ytmghmacgljihcaa
