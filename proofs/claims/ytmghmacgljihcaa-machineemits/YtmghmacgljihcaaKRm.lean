/- What is proved: the document's machine in memory, as it is read; its Left and Active answer as the plain ones do; no condition. -/
import Derived.Test.YtmghmacgljihcaaKRt
import Derived.Test.YtmghmacgljihcaaKLog
namespace Go.Proofs.Ytmghmacgljihcaa
open Go.RowKit

/-- Numbers in memory. -/
def IntsAt (w : World) (a : Option Addr) (l : List Int) : Prop := ∀ i x, l[i]? = some x → ∃ b off, a = some ⟨b, off, none⟩ ∧ b < w.heap.size ∧ w.cell? ⟨b, off + i, none⟩ = some (.int .i64 x)
theorem IntsAt.on {w w' : World} {a : Option Addr} {l : List Int} (h : IntsAt w a l) (k : Kept w w') : IntsAt w' a l := fun i x hx => by
  obtain ⟨b, off, rfl, hb, c⟩ := h i x hx
  exact ⟨b, off, rfl, Nat.lt_of_lt_of_le hb k.size, (k.cell (p := ⟨b, off + i, none⟩) hb (fun e => e)).trans c⟩
/-- A run in memory. -/
structure Run (w : World) (b off i : Nat) (r : Rn) (oa : Option Addr) (oc : Nat) (ta : Option Addr) (tc : Nat) : Prop where
  c0 : w.cell? ⟨b, off + i * 10, none⟩ = some (.int .i64 r.t.f0)
  c1 : w.cell? ⟨b, off + i * 10 + 1, none⟩ = some (.int .i64 r.t.f1)
  c2 : w.cell? ⟨b, off + i * 10 + 2, none⟩ = some (.int .i64 r.t.f2)
  c3 : w.cell? ⟨b, off + i * 10 + 3, none⟩ = some (.int .i64 r.t.f3)
  c4 : w.cell? ⟨b, off + i * 10 + 4, none⟩ = some (.int .i64 r.t.f4)
  c5 : w.cell? ⟨b, off + i * 10 + 5, none⟩ = some (.int .i64 r.t.f5)
  c6 : w.cell? ⟨b, off + i * 10 + 6, none⟩ = some (.int .i64 r.t.f6)
  c7 : w.cell? ⟨b, off + i * 10 + 7, none⟩ = some (.slice oa r.t.ops.length oc)
  c8 : w.cell? ⟨b, off + i * 10 + 8, none⟩ = some (.int .i64 r.st)
  c9 : w.cell? ⟨b, off + i * 10 + 9, none⟩ = some (.slice ta r.ts.length tc)
  ops : OpsAt w oa r.t.ops
  ts : IntsAt w ta r.ts
theorem Run.on {w w' : World} {b off i : Nat} {r : Rn} {oa : Option Addr} {oc : Nat} {ta : Option Addr} {tc : Nat} (h : Run w b off i r oa oc ta tc) (hb : b < w.heap.size) (k : Kept w w') : Run w' b off i r oa oc ta tc := by
  have t : ∀ o, w'.cell? ⟨b, o, none⟩ = w.cell? ⟨b, o, none⟩ := fun o => k.cell (p := ⟨b, o, none⟩) hb (fun e => e)
  exact ⟨(t _).trans h.c0, (t _).trans h.c1, (t _).trans h.c2, (t _).trans h.c3, (t _).trans h.c4, (t _).trans h.c5, (t _).trans h.c6, (t _).trans h.c7, (t _).trans h.c8, (t _).trans h.c9, h.ops.on k, h.ts.on k⟩
/-- The document's machine, as it is read. -/
structure Rd (w : World) (rb n : Nat) (fl : Int) (R : Rr) (a : Option Addr) (cap : Nat) (ev : Value) : Prop where
  c0 : w.cell? ⟨rb, 0, none⟩ = some (.int .i64 (n : Int))
  c1 : w.cell? ⟨rb, 1, none⟩ = some (.int .i64 fl)
  c2 : w.cell? ⟨rb, 2, none⟩ = some (.int .i64 R.clock)
  c3 : w.cell? ⟨rb, 3, none⟩ = some (.slice a R.all.length cap)
  c4 : w.cell? ⟨rb, 4, none⟩ = some ev
  lt : rb < w.heap.size
  run : ∀ i r, R.all[i]? = some r → ∃ b off oa oc ta tc, a = some ⟨b, off, none⟩ ∧ b < w.heap.size ∧ Run w b off i r oa oc ta tc
theorem Rd.on {w w' : World} {rb n : Nat} {fl : Int} {R : Rr} {a : Option Addr} {cap : Nat} {ev : Value} (h : Rd w rb n fl R a cap ev) (k : Kept w w') : Rd w' rb n fl R a cap ev := by
  have t : ∀ o, w'.cell? ⟨rb, o, none⟩ = w.cell? ⟨rb, o, none⟩ := fun o => k.cell (p := ⟨rb, o, none⟩) h.lt (fun e => e)
  refine ⟨(t _).trans h.c0, (t _).trans h.c1, (t _).trans h.c2, (t _).trans h.c3, (t _).trans h.c4, Nat.lt_of_lt_of_le h.lt k.size, fun i r hr => ?_⟩
  obtain ⟨b, off, oa, oc, ta, tc, rfl, hb, hR⟩ := h.run i r hr
  exact ⟨b, off, oa, oc, ta, tc, rfl, Nat.lt_of_lt_of_le hb k.size, hR.on hb k⟩
abbrev txA (t : TxM) (v : Value) : Value := .agg #[.int .i64 t.f0, .int .i64 t.f1, .int .i64 t.f2, .int .i64 t.f3, .int .i64 t.f4, .int .i64 t.f5, .int .i64 t.f6, v]
abbrev txO (t : TxM) (v : Value) : Obj := .cells #[.int .i64 t.f0, .int .i64 t.f1, .int .i64 t.f2, .int .i64 t.f3, .int .i64 t.f4, .int .i64 t.f5, .int .i64 t.f6, v] 51 (0, 0)
theorem tx_cells {w : World} {g : Nat} {t : TxM} {v : Value} (h : w.heap[g]? = some (txO t v)) : w.cell? ⟨g, 0, none⟩ = some (.int .i64 t.f0) ∧ w.cell? ⟨g, 1, none⟩ = some (.int .i64 t.f1) ∧ w.cell? ⟨g, 2, none⟩ = some (.int .i64 t.f2) ∧ w.cell? ⟨g, 3, none⟩ = some (.int .i64 t.f3) ∧ w.cell? ⟨g, 4, none⟩ = some (.int .i64 t.f4) ∧ w.cell? ⟨g, 5, none⟩ = some (.int .i64 t.f5) ∧ w.cell? ⟨g, 6, none⟩ = some (.int .i64 t.f6) ∧ w.cell? ⟨g, 7, none⟩ = some v :=
  ⟨(cell_of h 0).trans rfl, (cell_of h 1).trans rfl, (cell_of h 2).trans rfl, (cell_of h 3).trans rfl, (cell_of h 4).trans rfl, (cell_of h 5).trans rfl, (cell_of h 6).trans rfl, (cell_of h 7).trans rfl⟩
theorem isW_cases {k : ByteArray} {o : OpM} : isW k o = ((o.kind != 1) && (o.key.toList == k.toList)) := by
  unfold isW
  rw [Bool.and_comm]
  rfl
set_option maxRecDepth 100000 in
set_option maxHeartbeats 1600000 in
theorem rleft15 (w : World) (t : TxM) (oa : Option Addr) (oc : Nat) (ho : OpsAt w oa t.ops) (hn : t.ops.length ≤ 4096) (k : ByteArray) :
    Calls Try.prog 39 #[txA t (.slice oa t.ops.length oc), .string k] w fun e w' => e = .returned (.int .i64 (ix (lastW t.ops k))) ∧ Kept w w' := by
  have HG : Hid _ := heap_new w (txO t (.slice oa t.ops.length oc))
  have HK : Hid (Kept w (w.alloc (txO t (.slice oa t.ops.length oc)))) := (Same.refl _ w).alloc _
  have HO : Hid (OpsAt (w.alloc (txO t (.slice oa t.ops.length oc))) oa t.ops) := ho.on HK.out
  have HLW : Hid (lastW t.ops k = lw t.ops k t.ops.length) := rfl
  obtain ⟨L, eL⟩ : ∃ L, L = t.ops.length := ⟨_, rfl⟩
  rw [← eL] at hn HG HK HLW HO ⊢
  have EL : Hid (L = t.ops.length) := eL
  clear ho eL
  generalize hlw : lastW t.ops k = lo at *
  clear hlw
  go_enter Try.func39, Try.ntmps39
  go_upto_region 1 with fail
  generalize w.alloc (txO t (.slice oa L oc)) = Y at *
  generalize w.heap.size = g at *
  obtain ⟨-, -, -, -, -, -, -, c7⟩ := tx_cells HG.out
  have hg := lt_of_heap HG.out
  go_wp2_with fail
  go_loopw [5] (fun s wr => ∃ q : Int, s = .int .i64 q ∧ (-1 ≤ q ∧ q < L) ∧ wr = Y ∧ lo = lw t.ops k (q + 1).toNat) (fun s _ => (intOf s + 1).toNat)
  case atStart => exact ⟨(L : Int) - 1, rfl, ⟨by omega, by omega⟩, rfl, by rw [show ((L : Int) - 1 + 1).toNat = L by omega]; exact HLW.out⟩
  case round =>
    obtain ⟨q, rfl, ⟨hq1, hq2⟩, ew, hlo⟩ := hrel
    subst ew
    have HLO : Hid (lo = lw t.ops k (q + 1).toNat) := hlo
    clear hlo
    by_cases hq : 0 ≤ q
    · obtain ⟨j, rfl⟩ : ∃ j : Nat, q = (j : Int) := ⟨q.toNat, by omega⟩
      have d0 : decide ((0 : Int) ≤ (j : Int)) = true := decide_eq_true hq
      have d1 : (j : Int) < (L : Int) := hq2
      obtain ⟨o, ho⟩ : ∃ o, t.ops[j]? = some o := ⟨_, List.getElem?_eq_getElem (by rw [← show L = _ from EL.out]; omega)⟩
      have hgd : t.ops.getD j z0 = o := by rw [List.getD_eq_getElem?_getD, ho]; rfl
      obtain ⟨b, off, rfl, hb, q0, q1, -, -⟩ := HO.out j o ho
      have hst : lo = if isW k o = true then some j else lw t.ops k j := by
        have h9 : lo = lw t.ops k ((j : Int) + 1).toNat := HLO.out
        rw [show ((j : Int) + 1).toNat = j + 1 by omega, lw, hgd] at h9
        exact h9
      rw [isW_cases] at hst
      have HST : Hid _ := hst
      clear ho hgd hst HLO
      cases e1 : (o.kind != 1)
      · have HS2 : Hid (lo = lw t.ops k j) := (show lo = _ from HST.out).trans (by rw [e1]; rfl)
        go_wp2_with fail
        go_roundw
        case rel => exact ⟨(j : Int) - 1, rfl, ⟨by omega, by omega⟩, trivial, by rw [show ((j : Int) - 1 + 1).toNat = j by omega]; exact HS2.out⟩
        case measure => simp only [intOf]; omega
      · cases e2 : (o.key.toList == k.toList)
        · have HS2 : Hid (lo = lw t.ops k j) := (show lo = _ from HST.out).trans (by rw [e1, e2]; rfl)
          go_wp2_with fail
          go_roundw
          case rel => exact ⟨(j : Int) - 1, rfl, ⟨by omega, by omega⟩, trivial, by rw [show ((j : Int) - 1 + 1).toNat = j by omega]; exact HS2.out⟩
          case measure => simp only [intOf]; omega
        · have HS2 : Hid (lo = some j) := (show lo = _ from HST.out).trans (by rw [e1, e2]; rfl)
          go_wp2_with fail
          go_ret
          exact ⟨by rw [show lo = some j from HS2.out]; rfl, HK.out⟩
    · have d0 : decide ((0 : Int) ≤ q) = false := decide_eq_false hq
      have e9 : q = -1 := by omega
      have HS2 : Hid (lo = none) := (show lo = _ from HLO.out).trans (by rw [e9]; rfl)
      clear e9
      go_wp2_with fail
      go_ret
      exact ⟨by rw [show lo = none from HS2.out]; rfl, HK.out⟩
set_option maxRecDepth 100000 in
set_option maxHeartbeats 1600000 in
theorem ractive15 {w : World} {rb n : Nat} {fl : Int} {R : Rr} {a : Option Addr} {cap : Nat} {ev : Value} (h : Rd w rb n fl R a cap ev) (hn : R.all.length ≤ 4096) (se : Int) :
    Calls Try.prog 10 #[.pointer (some ⟨rb, 0, none⟩), .int .i64 se] w fun e w' => e = .returned (.int .i64 (ix (rAct R.all se))) ∧ w' = w := by
  have y3 := h.c3
  have hrl := h.lt
  have HR : Hid _ := h.run
  have HS1 : Hid (∀ (i : Nat) (r : Rn), R.all[i]? = some r → isA se r = true → (∀ (j : Nat) (r' : Rn), j < i → R.all[j]? = some r' → isA se r' = false) → rAct R.all se = some i) := fun i r h1 h2 h3 => rAct_some h1 h2 h3
  have HS2 : Hid ((∀ (j : Nat) (r' : Rn), R.all[j]? = some r' → isA se r' = false) → rAct R.all se = none) := rAct_none
  obtain ⟨L, eL⟩ : ∃ L, L = R.all.length := ⟨_, rfl⟩
  rw [← eL] at hn y3
  have EL : Hid (L = R.all.length) := eL
  clear h eL
  generalize rAct R.all se = ao at *
  go_enter Try.func10, Try.ntmps10
  go_wp2_with fail
  go_loopw [5] (fun s wr => ∃ j : Nat, s = .int .i64 j ∧ j ≤ L ∧ wr = w ∧ ∀ (q : Nat) (r' : Rn), q < j → R.all[q]? = some r' → isA se r' = false) (fun s _ => L - (intOf s).toNat)
  case atStart => exact ⟨0, rfl, Nat.zero_le _, rfl, fun q r' hq => by omega⟩
  case round =>
    obtain ⟨j, rfl, hj, ew, hno⟩ := hrel
    subst ew
    have HNO : Hid (∀ (q : Nat) (r' : Rn), q < j → R.all[q]? = some r' → isA se r' = false) := hno
    clear hno
    by_cases hlt : j < L
    · have c1 : decide ((j : Int) < (L : Int)) = true := by simp only [decide_eq_true_eq]; omega
      have hlt2 : (j : Int) < (L : Int) := by omega
      have hlt3 : (0 : Int) ≤ (j : Int) := by omega
      obtain ⟨r, hr⟩ : ∃ r, R.all[j]? = some r := ⟨_, List.getElem?_eq_getElem (by rw [← show L = _ from EL.out]; exact hlt)⟩
      obtain ⟨b, off, oa, oc, ta, tc, rfl, hb, hR⟩ := HR.out j r hr
      have q0 := hR.c0
      have q8 := hR.c8
      have HMO : Hid (isA se r = false → ∀ (q : Nat) (r' : Rn), q < j + 1 → R.all[q]? = some r' → isA se r' = false) := fun h9 q r' hq hr' => by
        rcases Nat.lt_or_eq_of_le (Nat.le_of_lt_succ hq) with h8 | rfl
        · exact HNO.out q r' h8 hr'
        · rw [hr] at hr'; cases hr'; exact h9
      have HYS : Hid (isA se r = true → ao = some j) := fun h9 => HS1.out j r hr h9 HNO.out
      have hisA : isA se r = ((r.st == 0) && (r.t.f0 == se)) := rfl
      rw [hisA] at HMO HYS
      clear hr hR hisA
      cases e1 : (r.st == 0)
      · have HM2 : Hid _ := HMO.out (by rw [e1]; rfl)
        go_wp2_with fail
        go_roundw
        case rel => exact ⟨j + 1, by simp, by omega, trivial, HM2.out⟩
        case measure => simp only [intOf]; omega
      · cases e2 : (r.t.f0 == se)
        · have HM2 : Hid _ := HMO.out (by rw [e1, e2]; rfl)
          go_wp2_with fail
          go_roundw
          case rel => exact ⟨j + 1, by simp, by omega, trivial, HM2.out⟩
          case measure => simp only [intOf]; omega
        · have HY2 : Hid (ao = some j) := HYS.out (by rw [e1, e2]; rfl)
          go_wp2_with fail
          go_ret
          exact ⟨by rw [show ao = some j from HY2.out]; rfl, rfl⟩
    · have c1 : decide ((j : Int) < (L : Int)) = false := by simp only [decide_eq_false_iff_not]; omega
      have HY2 : Hid (ao = none) := HS2.out (fun q r' hr' => HNO.out q r' (by have := (List.getElem?_eq_some_iff.1 hr').1; have h9 : L = R.all.length := EL.out; omega) hr')
      go_wp2_with fail
      go_ret
      exact ⟨by rw [show ao = none from HY2.out]; rfl, rfl⟩
end Go.Proofs.Ytmghmacgljihcaa
