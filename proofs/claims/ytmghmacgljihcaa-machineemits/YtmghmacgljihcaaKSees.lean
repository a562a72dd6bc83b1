/- What is proved: sees gives what a read of a key by an active transaction finds, whatever the machine's flaw; the machine lies in memory. -/
import Derived.Test.YtmghmacgljihcaaKSee
import Derived.Test.YtmghmacgljihcaaKDir
namespace Go.Proofs.Ytmghmacgljihcaa
open Go.RowKit

set_option maxRecDepth 100000 in
set_option maxHeartbeats 3200000 in
theorem sees15 {tg : Nat → Tg} {w : World} {mb sb vb : Nat} {lv : Value} {P : Nat → Option Nat} {L : List (TxM × Value)} {M : Mm} (h : Mi tg w mb sb vb lv P L M) (hi : Inv M) {g : Nat} {t : TxM} {ov tv : Value} (hx : TxB w g t ov tv) (ho : OwnO 0 w ov t.ops) (hn : t.ops.length ≤ 16) (k : ByteArray) (hk : k.size ≤ maxLen) (hA : M.A.length ≤ 65536) {B : Bool} {V : ByteArray} (eS : seeM M t k = (B, V)) :
    Calls Try.prog 49 #[.pointer (some ⟨mb, 0, none⟩), .pointer (some ⟨g, 0, none⟩), .string k] w fun e w' => e = .returned (.tuple #[.bool B, .string V]) ∧ Kept w w' := by
  have HLW : Hid _ := lastWrite15 hx ho hn k
  have HS : Hid (seeM M t k = (B, V)) := eS
  have HCO : Hid (∀ W, Kept w W → ∀ X : Vn, X = comM M.flaw M.clock M.A k t.f2 → Calls Try.prog 55 #[.pointer (some ⟨mb, 0, none⟩), .string k, .int .i64 t.f2] W fun e w' => e = .returned (.agg #[.int .i64 X.c, .int .i64 X.w, .bool X.f, .string X.v]) ∧ Kept W w') := fun W k' X eX => committed15 (h.on k') hi k hk t.f2 hA eX
  have HDI : Hid (∀ W, Kept w W → ∀ (O : OpM) (T : Int), drt M.ses k M.ses.length = (O, T) → Calls Try.prog 54 #[.pointer (some ⟨mb, 0, none⟩), .string k] W fun e w' => e = .returned (.tuple #[.agg #[.int .i64 O.kind, .string O.key, .bool O.found, .string O.value], .bool (decide (0 < T))]) ∧ Kept W w') := fun W k' O T e => lastDirty15 (h.on k') hi k e
  have HC : Hid (∀ W, Kept w W → (mb < W.heap.size ∧ W.cell? ⟨mb, 0, none⟩ = some (.int .i64 M.flaw)) ∧ (g < W.heap.size ∧ W.cell? ⟨g, 2, none⟩ = some (.int .i64 t.f2))) := fun W k' => by
    obtain ⟨h1, ⟨c0, -⟩, -⟩ := Mi.cells (h.on k')
    obtain ⟨h2, ⟨-, -, d2, -⟩, -⟩ := TxB.cells (hx.on k')
    exact ⟨⟨h1, c0⟩, h2, d2⟩
  obtain ⟨oa, ocp, rfl, hoat, -, -⟩ := OwnO.ops ho
  obtain ⟨hgl, ⟨-, -, -, -, -, -, -, q7, -⟩, -⟩ := TxB.cells hx
  have HOA : Hid (OpsAt w oa t.ops) := hoat
  clear h hi hx ho hk hA eS hoat
  obtain ⟨⟨hmb, c0⟩, -, d2⟩ := HC.out w (Same.refl _ _)
  cases hl : lastW t.ops k with
  | some i =>
    rw [hl] at HLW
    have hil := lastW_lt hl
    obtain ⟨o, ho⟩ : ∃ o, t.ops[i]? = some o := ⟨_, List.getElem?_eq_getElem hil⟩
    obtain ⟨b, off, rfl, hb, y0, y1, y2, y3⟩ := HOA.out i o ho
    have HR : Hid (B = o.found ∧ V = o.value) := by
      show _ ∧ _
      have h1 := HS.out
      unfold seeM at h1
      rw [hl] at h1
      simp only [List.getD_eq_getElem?_getD, ho, Option.getD_some] at h1
      obtain ⟨e1, e2⟩ := Prod.mk.inj h1
      exact ⟨e1.symm, e2.symm⟩
    generalize t.ops.length = on at *
    have hi2 : (i : Int) < (on : Int) := by omega
    have hi3 : decide ((i : Int) < (on : Int)) = true := decide_eq_true hi2
    have elw : lwI (some i) = (i : Int) := rfl
    rw [elw] at HLW
    clear hl ho hil elw HS
    go_enter Try.func49, Try.ntmps49
    go_wp2_with fail
    refine Calls.mono HLW.out ?_
    rintro r w1 ⟨rfl, h1⟩
    subst w1
    go_wp2_with fail
    go_quiet (fail)
    go_wp2_with fail
    refine bodyPost_ret (results_tmp2 rfl _ _ _) rfl ?_
    obtain ⟨e1, e2⟩ := HR.out
    rw [e1, e2]
    exact ⟨rfl, (Same.refl _ _).drewN _⟩
  | none =>
    rw [hl] at HLW
    obtain ⟨O, T, eOT⟩ : ∃ O T, drt M.ses k M.ses.length = (O, T) := ⟨_, _, rfl⟩
    obtain ⟨X, eX⟩ : ∃ X, X = comM M.flaw M.clock M.A k t.f2 := ⟨_, rfl⟩
    have HR : Hid (if M.flaw = 4 ∧ 0 < T then (O.found, O.value) = (B, V) else (X.f, X.v) = (B, V)) := by
      show if _ then _ else _
      have h1 := HS.out
      unfold seeM at h1
      rw [hl, eOT] at h1
      simp only at h1
      split
      · rw [if_pos ‹_›] at h1
        exact h1
      · rw [if_neg ‹_›, ← eX] at h1
        exact h1
    have HCO2 : Hid (∀ W, Kept w W → _) := fun W k' => HCO.out W k' X eX
    have HDI2 : Hid (∀ W, Kept w W → _) := fun W k' => HDI.out W k' O T eOT
    clear hl eOT eX HS HCO HDI
    by_cases h4 : M.flaw = 4
    · have f4 : (M.flaw == 4) = true := by simpa using h4
      by_cases hT : 0 < T
      · have hT2 : decide (0 < T) = true := decide_eq_true hT
        rw [hT2] at HDI2
        have HR2 : Hid ((O.found, O.value) = (B, V)) := by
          have h1 := HR.out
          rw [if_pos ⟨h4, hT⟩] at h1
          exact h1
        clear HR h4 hT hT2 HCO2
        generalize M.flaw = fl at *
        go_enter Try.func49, Try.ntmps49
        go_wp2_with fail
        refine Calls.mono HLW.out ?_
        rintro r w1 ⟨rfl, h1⟩
        subst w1
        go_wp2_with fail
        refine Calls.mono (HDI2.out _ (Same.refl _ _)) ?_
        rintro r w2 ⟨rfl, k2⟩
        have K2 : Hid _ := k2
        clear k2
        go_wp2_with fail
        go_quiet (fail)
        go_wp2_with fail
        refine bodyPost_ret (results_tmp2 rfl _ _ _) rfl ?_
        obtain ⟨rfl, rfl⟩ := Prod.mk.inj (show (O.found, O.value) = (B, V) from HR2.out)
        exact ⟨rfl, (Same.alloc K2.out _).drewN _⟩
      · have hT2 : decide (0 < T) = false := decide_eq_false hT
        rw [hT2] at HDI2
        have HR2 : Hid ((X.f, X.v) = (B, V)) := by
          have h1 := HR.out
          rw [if_neg (fun h => hT h.2)] at h1
          exact h1
        clear HR h4 hT hT2
        generalize M.flaw = fl at *
        go_enter Try.func49, Try.ntmps49
        go_wp2_with fail
        refine Calls.mono HLW.out ?_
        rintro r w1 ⟨rfl, h1⟩
        subst w1
        go_wp2_with fail
        refine Calls.mono (HDI2.out _ (Same.refl _ _)) ?_
        rintro r w2 ⟨rfl, k2⟩
        have K3 : Hid (Kept w (w2.alloc (.cells #[.int .i64 O.kind, .string O.key, .bool O.found, .string O.value] 84 (0, 0)))) := Same.alloc k2 _
        obtain ⟨-, hg2, e2⟩ := HC.out w2 k2
        have K2 : Hid _ := k2
        clear k2
        go_wp2_with fail
        refine Calls.mono (HCO2.out _ K3.out) ?_
        rintro r w4 ⟨rfl, k4⟩
        have K4 : Hid _ := k4
        clear k4
        go_wp2_with fail
        go_quiet (fail)
        go_wp2_with fail
        refine bodyPost_ret (results_tmp2 rfl _ _ _) rfl ?_
        obtain ⟨rfl, rfl⟩ := Prod.mk.inj (show (X.f, X.v) = (B, V) from HR2.out)
        exact ⟨rfl, (Same.alloc (Same.trans' K3.out K4.out) _).drewN _⟩
    · have f4 : (M.flaw == 4) = false := by simpa using h4
      have HR2 : Hid ((X.f, X.v) = (B, V)) := by
        have h1 := HR.out
        rw [if_neg (fun h => h4 h.1)] at h1
        exact h1
      clear HR h4 HDI2
      generalize M.flaw = fl at *
      go_enter Try.func49, Try.ntmps49
      go_wp2_with fail
      refine Calls.mono HLW.out ?_
      rintro r w1 ⟨rfl, h1⟩
      subst w1
      go_wp2_with fail
      refine Calls.mono (HCO2.out _ (Same.refl _ _)) ?_
      rintro r w4 ⟨rfl, k4⟩
      have K4 : Hid _ := k4
      clear k4
      go_wp2_with fail
      go_quiet (fail)
      go_wp2_with fail
      refine bodyPost_ret (results_tmp2 rfl _ _ _) rfl ?_
      obtain ⟨rfl, rfl⟩ := Prod.mk.inj (show (X.f, X.v) = (B, V) from HR2.out)
      exact ⟨rfl, (Same.alloc K4.out _).drewN _⟩
end Go.Proofs.Ytmghmacgljihcaa
