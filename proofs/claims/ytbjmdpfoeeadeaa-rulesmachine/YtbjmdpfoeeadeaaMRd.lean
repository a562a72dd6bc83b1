/- What is proved: the reading functions of the document's machine answer as the plain ones do; it lies in memory; no condition. -/
import Derived.Test.YtbjmdpfoeeadeaaMPla
import Derived.Test.YtbjmdpfoeeadeaaMMem
namespace Go.Proofs.Ytbjmdpfoeeadeaa.Ch.Mc
open Go.RowKit

/-- Numbers in memory. -/
def IntsAt (w : World) (a : Option Addr) (l : List Int) : Prop := ∀ i x, l[i]? = some x → ∃ b off, a = some ⟨b, off, none⟩ ∧ b < w.heap.size ∧ w.cell? ⟨b, off + i, none⟩ = some (.int .i64 x)
theorem IntsAt.on {w w' : World} {a : Option Addr} {l : List Int} (h : IntsAt w a l) (k : Kept w w') : IntsAt w' a l := fun i x hx => by
  obtain ⟨b, off, rfl, hb, c⟩ := h i x hx
  exact ⟨b, off, rfl, Nat.lt_of_lt_of_le hb k.size, (k.cell (p := ⟨b, off + i, none⟩) hb (fun e => e)).trans c⟩
/-- A run in memory. -/
structure Run (w : World) (b off i : Nat) (r : Rn) (oa : Option Addr) (oc : Nat) (ta : Option Addr) (tc : Nat) : Prop where
  c0 : w.cell? ⟨b, off + i * 10, none⟩ = some (.int .i64 r.t.f0)
  c1 : w.cell? ⟨b, off + i * 10 + 1, none⟩ = some (.int .i64 r.t.f1)
  c2 : w.cell? ⟨b, off + i * 10 + 2, none⟩ = some (.int .i64 r.t.f2)
  c3 : w.cell? ⟨b, off + i * 10 + 3, none⟩ = some (.int .i64 r.t.f3)
  c4 : w.cell? ⟨b, off + i * 10 + 4, none⟩ = some (.int .i64 r.t.f4)
  c5 : w.cell? ⟨b, off + i * 10 + 5, none⟩ = some (.int .i64 r.t.f5)
  c6 : w.cell? ⟨b, off + i * 10 + 6, none⟩ = some (.int .i64 r.t.f6)
  c7 : w.cell? ⟨b, off + i * 10 + 7, none⟩ = some (.slice oa r.t.ops.length oc)
  c8 : w.cell? ⟨b, off + i * 10 + 8, none⟩ = some (.int .i64 r.st)
  c9 : w.cell? ⟨b, off + i * 10 + 9, none⟩ = some (.slice ta r.ts.length tc)
  ops : OpsAt w oa r.t.ops
  ts : IntsAt w ta r.ts
theorem Run.on {w w' : World} {b off i : Nat} {r : Rn} {oa : Option Addr} {oc : Nat} {ta : Option Addr} {tc : Nat} (h : Run w b off i r oa oc ta tc) (hb : b < w.heap.size) (k : Kept w w') : Run w' b off i r oa oc ta tc := by
  have t : ∀ o, w'.cell? ⟨b, o, none⟩ = w.cell? ⟨b, o, none⟩ := fun o => k.cell (p := ⟨b, o, none⟩) hb (fun e => e)
  exact ⟨(t _).trans h.c0, (t _).trans h.c1, (t _).trans h.c2, (t _).trans h.c3, (t _).trans h.c4, (t _).trans h.c5, (t _).trans h.c6, (t _).trans h.c7, (t _).trans h.c8, (t _).trans h.c9, h.ops.on k, h.ts.on k⟩
/-- The document's machine, as it is read. -/
structure Rd (w : World) (rb n : Nat) (fl : Int) (R : Rr) (a : Option Addr) (cap : Nat) (ev : Value) : Prop where
  c0 : w.cell? ⟨rb, 0, none⟩ = some (.int .i64 (n : Int))
  c1 : w.cell? ⟨rb, 1, none⟩ = some (.int .i64 fl)
  c2 : w.cell? ⟨rb, 2, none⟩ = some (.int .i64 R.clock)
  c3 : w.cell? ⟨rb, 3, none⟩ = some (.slice a R.all.length cap)
  c4 : w.cell? ⟨rb, 4, none⟩ = some ev
  lt : rb < w.heap.size
  run : ∀ i r, R.all[i]? = some r → ∃ b off oa oc ta tc, a = some ⟨b, off, none⟩ ∧ b < w.heap.size ∧ Run w b off i r oa oc ta tc
theorem Rd.on {w w' : World} {rb n : Nat} {fl : Int} {R : Rr} {a : Option Addr} {cap : Nat} {ev : Value} (h : Rd w rb n fl R a cap ev) (k : Kept w w') : Rd w' rb n fl R a cap ev := by
  have t : ∀ o, w'.cell? ⟨rb, o, none⟩ = w.cell? ⟨rb, o, none⟩ := fun o => k.cell (p := ⟨rb, o, none⟩) h.lt (fun e => e)
  refine ⟨(t _).trans h.c0, (t _).trans h.c1, (t _).trans h.c2, (t _).trans h.c3, (t _).trans h.c4, Nat.lt_of_lt_of_le h.lt k.size, fun i r hr => ?_⟩
  obtain ⟨b, off, oa, oc, ta, tc, rfl, hb, hR⟩ := h.run i r hr
  exact ⟨b, off, oa, oc, ta, tc, rfl, Nat.lt_of_lt_of_le hb k.size, hR.on hb k⟩
abbrev txA (t : TxM) (v : Value) : Value := .agg #[.int .i64 t.f0, .int .i64 t.f1, .int .i64 t.f2, .int .i64 t.f3, .int .i64 t.f4, .int .i64 t.f5, .int .i64 t.f6, v]
abbrev txO (t : TxM) (v : Value) : Obj := .cells #[.int .i64 t.f0, .int .i64 t.f1, .int .i64 t.f2, .int .i64 t.f3, .int .i64 t.f4, .int .i64 t.f5, .int .i64 t.f6, v] 24 (0, 0)
theorem tx_cells {w : World} {g : Nat} {t : TxM} {v : Value} (h : w.heap[g]? = some (txO t v)) : w.cell? ⟨g, 0, none⟩ = some (.int .i64 t.f0) ∧ w.cell? ⟨g, 1, none⟩ = some (.int .i64 t.f1) ∧ w.cell? ⟨g, 2, none⟩ = some (.int .i64 t.f2) ∧ w.cell? ⟨g, 3, none⟩ = some (.int .i64 t.f3) ∧ w.cell? ⟨g, 4, none⟩ = some (.int .i64 t.f4) ∧ w.cell? ⟨g, 5, none⟩ = some (.int .i64 t.f5) ∧ w.cell? ⟨g, 6, none⟩ = some (.int .i64 t.f6) ∧ w.cell? ⟨g, 7, none⟩ = some v :=
  ⟨(cell_of h 0).trans rfl, (cell_of h 1).trans rfl, (cell_of h 2).trans rfl, (cell_of h 3).trans rfl, (cell_of h 4).trans rfl, (cell_of h 5).trans rfl, (cell_of h 6).trans rfl, (cell_of h 7).trans rfl⟩
theorem isW_cases {k : ByteArray} {o : OpM} : isW k o = ((o.kind != 1) && (o.key.toList == k.toList)) := by
  unfold isW
  rw [Bool.and_comm]
  rfl
set_option maxRecDepth 100000 in
set_option maxHeartbeats 1600000 in
theorem rleft15 (w : World) (t : TxM) (oa : Option Addr) (oc : Nat) (ho : OpsAt w oa t.ops) (hn : t.ops.length ≤ 4096) (k : ByteArray) :
    Calls Try.prog 74 #[txA t (.slice oa t.ops.length oc), .string k] w fun e w' => e = .returned (.int .i64 (ix (lastW t.ops k))) ∧ Kept w w' := by
  have HG : Hid _ := heap_new w (txO t (.slice oa t.ops.length oc))
  have HK : Hid (Kept w (w.alloc (txO t (.slice oa t.ops.length oc)))) := (Same.refl _ w).alloc _
  have HO : Hid (OpsAt (w.alloc (txO t (.slice oa t.ops.length oc))) oa t.ops) := ho.on HK.out
  have HLW : Hid (lastW t.ops k = lw t.ops k t.ops.length) := rfl
  obtain ⟨L, eL⟩ : ∃ L, L = t.ops.length := ⟨_, rfl⟩
  rw [← eL] at hn HG HK HLW HO ⊢
  have EL : Hid (L = t.ops.length) := eL
  clear ho eL
  generalize hlw : lastW t.ops k = lo at *
  clear hlw
  go_enter Try.func74, Try.ntmps74
  go_upto_region 1 with fail
  generalize w.alloc (txO t (.slice oa L oc)) = Y at *
  generalize w.heap.size = g at *
  obtain ⟨-, -, -, -, -, -, -, c7⟩ := tx_cells HG.out
  have hg := lt_of_heap HG.out
  go_wp2_with fail
  go_loopw [5] (fun s wr => ∃ q : Int, s = .int .i64 q ∧ (-1 ≤ q ∧ q < L) ∧ wr = Y ∧ lo = lw t.ops k (q + 1).toNat) (fun s _ => (intOf s + 1).toNat)
  case atStart => exact ⟨(L : Int) - 1, rfl, ⟨by omega, by omega⟩, rfl, by rw [show ((L : Int) - 1 + 1).toNat = L by omega]; exact HLW.out⟩
  case round =>
    obtain ⟨q, rfl, ⟨hq1, hq2⟩, ew, hlo⟩ := hrel
    subst ew
    have HLO : Hid (lo = lw t.ops k (q + 1).toNat) := hlo
    clear hlo
    by_cases hq : 0 ≤ q
    · obtain ⟨j, rfl⟩ : ∃ j : Nat, q = (j : Int) := ⟨q.toNat, by omega⟩
      have d0 : decide ((0 : Int) ≤ (j : Int)) = true := decide_eq_true hq
      have d1 : (j : Int) < (L : Int) := hq2
      obtain ⟨o, ho⟩ : ∃ o, t.ops[j]? = some o := ⟨_, List.getElem?_eq_getElem (by rw [← show L = _ from EL.out]; omega)⟩
      have hgd : t.ops.getD j z0 = o := by rw [List.getD_eq_getElem?_getD, ho]; rfl
      obtain ⟨b, off, rfl, hb, q0, q1, -, -⟩ := HO.out j o ho
      have hst : lo = if isW k o = true then some j else lw t.ops k j := by
        have h9 : lo = lw t.ops k ((j : Int) + 1).toNat := HLO.out
        rw [show ((j : Int) + 1).toNat = j + 1 by omega, lw, hgd] at h9
        exact h9
      rw [isW_cases] at hst
      have HST : Hid _ := hst
      clear ho hgd hst HLO
      cases e1 : (o.kind != 1)
      · have HS2 : Hid (lo = lw t.ops k j) := (show lo = _ from HST.out).trans (by rw [e1]; rfl)
        go_wp2_with fail
        go_roundw
        case rel => exact ⟨(j : Int) - 1, rfl, ⟨by omega, by omega⟩, trivial, by rw [show ((j : Int) - 1 + 1).toNat = j by omega]; exact HS2.out⟩
        case measure => simp only [intOf]; omega
      · cases e2 : (o.key.toList == k.toList)
        · have HS2 : Hid (lo = lw t.ops k j) := (show lo = _ from HST.out).trans (by rw [e1, e2]; rfl)
          go_wp2_with fail
          go_roundw
          case rel => exact ⟨(j : Int) - 1, rfl, ⟨by omega, by omega⟩, trivial, by rw [show ((j : Int) - 1 + 1).toNat = j by omega]; exact HS2.out⟩
          case measure => simp only [intOf]; omega
        · have HS2 : Hid (lo = some j) := (show lo = _ from HST.out).trans (by rw [e1, e2]; rfl)
          go_wp2_with fail
          go_ret
          exact ⟨by rw [show lo = some j from HS2.out]; rfl, HK.out⟩
    · have d0 : decide ((0 : Int) ≤ q) = false := decide_eq_false hq
      have e9 : q = -1 := by omega
      have HS2 : Hid (lo = none) := (show lo = _ from HLO.out).trans (by rw [e9]; rfl)
      clear e9
      go_wp2_with fail
      go_ret
      exact ⟨by rw [show lo = none from HS2.out]; rfl, HK.out⟩
set_option maxRecDepth 100000 in
set_option maxHeartbeats 1600000 in
theorem ractive15 {w : World} {rb n : Nat} {fl : Int} {R : Rr} {a : Option Addr} {cap : Nat} {ev : Value} (h : Rd w rb n fl R a cap ev) (hn : R.all.length ≤ 4096) (se : Int) :
    Calls Try.prog 62 #[.pointer (some ⟨rb, 0, none⟩), .int .i64 se] w fun e w' => e = .returned (.int .i64 (ix (rAct R.all se))) ∧ w' = w := by
  have y3 := h.c3
  have hrl := h.lt
  have HR : Hid _ := h.run
  have HS1 : Hid (∀ (i : Nat) (r : Rn), R.all[i]? = some r → isA se r = true → (∀ (j : Nat) (r' : Rn), j < i → R.all[j]? = some r' → isA se r' = false) → rAct R.all se = some i) := fun i r h1 h2 h3 => rAct_some h1 h2 h3
  have HS2 : Hid ((∀ (j : Nat) (r' : Rn), R.all[j]? = some r' → isA se r' = false) → rAct R.all se = none) := rAct_none
  obtain ⟨L, eL⟩ : ∃ L, L = R.all.length := ⟨_, rfl⟩
  rw [← eL] at hn y3
  have EL : Hid (L = R.all.length) := eL
  clear h eL
  generalize rAct R.all se = ao at *
  go_enter Try.func62, Try.ntmps62
  go_wp2_with fail
  go_loopw [5] (fun s wr => ∃ j : Nat, s = .int .i64 j ∧ j ≤ L ∧ wr = w ∧ ∀ (q : Nat) (r' : Rn), q < j → R.all[q]? = some r' → isA se r' = false) (fun s _ => L - (intOf s).toNat)
  case atStart => exact ⟨0, rfl, Nat.zero_le _, rfl, fun q r' hq => by omega⟩
  case round =>
    obtain ⟨j, rfl, hj, ew, hno⟩ := hrel
    subst ew
    have HNO : Hid (∀ (q : Nat) (r' : Rn), q < j → R.all[q]? = some r' → isA se r' = false) := hno
    clear hno
    by_cases hlt : j < L
    · have c1 : decide ((j : Int) < (L : Int)) = true := by simp only [decide_eq_true_eq]; omega
      have hlt2 : (j : Int) < (L : Int) := by omega
      have hlt3 : (0 : Int) ≤ (j : Int) := by omega
      obtain ⟨r, hr⟩ : ∃ r, R.all[j]? = some r := ⟨_, List.getElem?_eq_getElem (by rw [← show L = _ from EL.out]; exact hlt)⟩
      obtain ⟨b, off, oa, oc, ta, tc, rfl, hb, hR⟩ := HR.out j r hr
      have q0 := hR.c0
      have q8 := hR.c8
      have HMO : Hid (isA se r = false → ∀ (q : Nat) (r' : Rn), q < j + 1 → R.all[q]? = some r' → isA se r' = false) := fun h9 q r' hq hr' => by
        rcases Nat.lt_or_eq_of_le (Nat.le_of_lt_succ hq) with h8 | rfl
        · exact HNO.out q r' h8 hr'
        · rw [hr] at hr'; cases hr'; exact h9
      have HYS : Hid (isA se r = true → ao = some j) := fun h9 => HS1.out j r hr h9 HNO.out
      have hisA : isA se r = ((r.st == 0) && (r.t.f0 == se)) := rfl
      rw [hisA] at HMO HYS
      clear hr hR hisA
      cases e1 : (r.st == 0)
      · have HM2 : Hid _ := HMO.out (by rw [e1]; rfl)
        go_wp2_with fail
        go_roundw
        case rel => exact ⟨j + 1, by simp, by omega, trivial, HM2.out⟩
        case measure => simp only [intOf]; omega
      · cases e2 : (r.t.f0 == se)
        · have HM2 : Hid _ := HMO.out (by rw [e1, e2]; rfl)
          go_wp2_with fail
          go_roundw
          case rel => exact ⟨j + 1, by simp, by omega, trivial, HM2.out⟩
          case measure => simp only [intOf]; omega
        · have HY2 : Hid (ao = some j) := HYS.out (by rw [e1, e2]; rfl)
          go_wp2_with fail
          go_ret
          exact ⟨by rw [show ao = some j from HY2.out]; rfl, rfl⟩
    · have c1 : decide ((j : Int) < (L : Int)) = false := by simp only [decide_eq_false_iff_not]; omega
      have HY2 : Hid (ao = none) := HS2.out (fun q r' hr' => HNO.out q r' (by have := (List.getElem?_eq_some_iff.1 hr').1; have h9 : L = R.all.length := EL.out; omega) hr')
      go_wp2_with fail
      go_ret
      exact ⟨by rw [show ao = none from HY2.out]; rfl, rfl⟩
end Go.Proofs.Ytbjmdpfoeeadeaa.Ch.Mc

namespace Go.Proofs.Ytbjmdpfoeeadeaa.Ch.Mc
open Go.RowKit

/-- What is small of the document's machine. -/
structure Sml (R : Rr) : Prop where
  n : R.all.length ≤ 4096
  e : R.ends.length ≤ 4096
  o : ∀ r ∈ R.all, r.t.ops.length ≤ 16 ∧ r.ts.length = r.t.ops.length
theorem vis_val (k : ByteArray) (time : Int) (r : Rn) : vis k time r = ((r.st == 1) && (r.t.f6 == 1) && decide (r.t.f3 ≤ time) && (lastW r.t.ops k).isSome) := rfl
set_option maxRecDepth 100000 in
set_option maxHeartbeats 3200000 in
theorem rseen15 {w : World} {rb n : Nat} {fl : Int} {R : Rr} {a : Option Addr} {cap : Nat} {ev : Value} (h : Rd w rb n fl R a cap ev) (hs : Sml R) (k : ByteArray) (time : Int) :
    Calls Try.prog 73 #[.pointer (some ⟨rb, 0, none⟩), .string k, .int .i64 time] w fun e w' => e = .returned (.int .i64 (ix (rSee R.all k time))) ∧ Kept w w' := by
  have HH : Hid (Rd w rb n fl R a cap ev) := h
  have hn := hs.n
  have HS : Hid (Sml R) := hs
  unfold rSee
  obtain ⟨L, eL⟩ : ∃ L, L = R.all.length := ⟨_, rfl⟩
  rw [← eL] at hn ⊢
  have EL : Hid (L = R.all.length) := eL
  clear h eL hs
  generalize hso : rSeen R.all k time L = fo
  have HFO : Hid (rSeen R.all k time L = fo) := hso
  clear hso
  go_enter Try.func73, Try.ntmps73
  go_wp2_with fail
  go_loopw [7, 8] (fun s7 s8 wr => ∃ j : Nat, s8 = .int .i64 j ∧ s7 = .int .i64 (ix (rSeen R.all k time j)) ∧ j ≤ L ∧ Kept w wr) (fun _ s8 _ => L - (intOf s8).toNat)
  case atStart => exact ⟨0, rfl, rfl, Nat.zero_le _, Same.refl _ _⟩
  case round =>
    obtain ⟨j, rfl, rfl, hj, kk⟩ := hrel
    have KK : Hid (Kept w wr) := kk
    have hrd := HH.out.on kk
    have HRD : Hid (Rd wr rb n fl R a cap ev) := hrd
    have y3 := hrd.c3
    have hrl := hrd.lt
    rw [← show L = _ from EL.out] at y3
    clear kk hrd
    by_cases hlt : j < L
    · have c1 : decide ((j : Int) < (L : Int)) = true := by simp only [decide_eq_true_eq]; omega
      have hlt2 : (j : Int) < (L : Int) := by omega
      have hlt3 : (0 : Int) ≤ (j : Int) := by omega
      obtain ⟨r, hr⟩ : ∃ r, R.all[j]? = some r := ⟨_, List.getElem?_eq_getElem (by rw [← show L = _ from EL.out]; exact hlt)⟩
      have hgr : gR R.all j = r := gR_of hr
      have hol := HS.out.o r (List.mem_of_getElem? hr)
      obtain ⟨b, off, oa, oc, ta, tc, rfl, hb, hR⟩ := HRD.out.run j r hr
      obtain ⟨so, eso⟩ : ∃ so, so = rSeen R.all k time j := ⟨_, rfl⟩
      obtain ⟨vv, evv⟩ : ∃ vv, vv = (vis k time r && bt R.all so r.t.f3) := ⟨_, rfl⟩
      have HNX : Hid (rSeen R.all k time (j + 1) = if vv = true then some j else so) := by
        show rSeen R.all k time (j + 1) = _
        rw [rSeen, hgr, ← eso, evv]
      have HSB : Hid (∀ q, so = some q → q < L ∧ ∃ rq oq cq tq dq, R.all[q]? = some rq ∧ gR R.all q = rq ∧ Run wr b off q rq oq cq tq dq) := fun q hq => by
        rcases rSeen_spec R.all k time j with ⟨h1, -⟩ | ⟨b', h1, h2, -⟩
        · rw [← eso, hq] at h1; cases h1
        · rw [← eso, hq] at h1
          cases h1
          have hql : q < R.all.length := by rw [← show L = _ from EL.out]; omega
          obtain ⟨b3, off3, oq, cq, tq, dq, eb, -, hq3⟩ := HRD.out.run q _ (gR_at hql)
          cases eb
          exact ⟨by omega, _, oq, cq, tq, dq, gR_at hql, rfl, hq3⟩
      rw [← eso]
      have q0 := hR.c0
      have q1 := hR.c1
      have q2 := hR.c2
      have q3 := hR.c3
      have q4 := hR.c4
      have q5 := hR.c5
      have q6 := hR.c6
      have q7 := hR.c7
      have K1 : Hid (Kept wr (wr.alloc (txO r.t (.slice oa r.t.ops.length oc)))) := (Same.refl _ wr).alloc _
      have HR1 : Hid (Run (wr.alloc (txO r.t (.slice oa r.t.ops.length oc))) b off j r oa oc ta tc) := hR.on hb K1.out
      have G1 : Hid _ := heap_new wr (txO r.t (.slice oa r.t.ops.length oc))
      have HRD1 : Hid (Rd (wr.alloc (txO r.t (.slice oa r.t.ops.length oc))) rb n fl R (some ⟨b, off, none⟩) cap ev) := HRD.out.on K1.out
      have HSB1 : Hid (∀ q, so = some q → q < L ∧ ∃ rq oq cq tq dq, gR R.all q = rq ∧ Run (wr.alloc (txO r.t (.slice oa r.t.ops.length oc))) b off q rq oq cq tq dq) := fun q hq => by
        obtain ⟨h1, rq, oq, cq, tq, dq, -, h3, h4⟩ := HSB.out q hq
        exact ⟨h1, rq, oq, cq, tq, dq, h3, h4.on hb K1.out⟩
      have hbY : b < (wr.alloc (txO r.t (.slice oa r.t.ops.length oc))).heap.size := Nat.lt_of_lt_of_le hb K1.out.size
      have EVV : Hid (vv = (vis k time r && bt R.all so r.t.f3)) := evv
      have HLF : Hid (∀ W', Kept (wr.alloc (txO r.t (.slice oa r.t.ops.length oc))) W' → Calls Try.prog 74 #[txA r.t (.slice oa r.t.ops.length oc), .string k] W' fun e w' => e = .returned (.int .i64 (ix (lastW r.t.ops k))) ∧ Kept W' w') := fun W' k' => rleft15 W' r.t oa oc (HR1.out.ops.on k') (by omega) k
      clear hr hgr hR eso evv HSB hb
      generalize hrt : r.t.ops.length = ol at *
      clear hrt
      go_upto_region 6 with fail
      generalize wr.alloc (txO r.t (.slice oa ol oc)) = Y at *
      generalize wr.heap.size = g at *
      obtain ⟨t0', t1, t2, t3, t4, t5, t6, t7⟩ := tx_cells G1.out
      have hg := lt_of_heap G1.out
      clear q0 q1 q2 q3 q4 q5 q6 q7 y3 hrl
      have y3 := HRD1.out.c3
      rw [← show L = _ from EL.out] at y3
      have hrl := HRD1.out.lt
      have q8 := HR1.out.c8
      rw [vis_val] at EVV
      go_cut [70] (fun s70 wx => s70 = .bool vv ∧ Kept Y wx)
      case first =>
        cases e1 : (r.st == 1)
        · rw [e1] at EVV
          obtain rfl : vv = false := EVV.out
          go_quiet (fail)
          go_wp2_with fail
          go_meet
          exact ⟨rfl, Same.drewN (Same.refl _ _) _⟩
        · cases e2 : (r.t.f6 == 1)
          · rw [e1, e2] at EVV
            obtain rfl : vv = false := EVV.out
            go_quiet (fail)
            go_wp2_with fail
            go_meet
            exact ⟨rfl, Same.drewN (Same.refl _ _) _⟩
          · cases e3 : decide (r.t.f3 ≤ time)
            · rw [e1, e2, e3] at EVV
              obtain rfl : vv = false := EVV.out
              go_quiet (fail)
              go_wp2_with fail
              go_meet
              exact ⟨rfl, Same.drewN (Same.refl _ _) _⟩
            · rw [e1, e2, e3] at EVV
              have HBX : Hid (∀ W', Kept Y W' → Kept Y W' ∧ (W'.cell? ⟨rb, 3, none⟩ = some (.slice (some ⟨b, off, none⟩) L cap) ∧ rb < W'.heap.size) ∧ W'.cell? ⟨b, off + j * 10 + 8, none⟩ = some (.int .i64 r.st) ∧ (W'.cell? ⟨g, 0, none⟩ = some (.int .i64 r.t.f0) ∧ W'.cell? ⟨g, 1, none⟩ = some (.int .i64 r.t.f1) ∧ W'.cell? ⟨g, 2, none⟩ = some (.int .i64 r.t.f2) ∧ W'.cell? ⟨g, 3, none⟩ = some (.int .i64 r.t.f3) ∧ W'.cell? ⟨g, 4, none⟩ = some (.int .i64 r.t.f4) ∧ W'.cell? ⟨g, 5, none⟩ = some (.int .i64 r.t.f5) ∧ W'.cell? ⟨g, 6, none⟩ = some (.int .i64 r.t.f6) ∧ W'.cell? ⟨g, 7, none⟩ = some (.slice oa ol oc))) := fun W' k' =>
                ⟨k', ⟨(k'.cell (p := ⟨rb, 3, none⟩) hrl (fun e => e)).trans y3, Nat.lt_of_lt_of_le hrl k'.size⟩, (k'.cell (p := ⟨b, _, none⟩) hbY (fun e => e)).trans q8, tx_cells ((k'.block g hg (fun e => e)).trans G1.out)⟩
              generalize hlo : lastW r.t.ops k = lo at *
              clear hlo
              cases lo with
              | none =>
                obtain rfl : vv = false := EVV.out
                simp only [ix] at HLF
                refine wp_region_held_drew (S := fun W' => Kept Y W' ∧ (W'.cell? ⟨rb, 3, none⟩ = some (.slice (some ⟨b, off, none⟩) L cap) ∧ rb < W'.heap.size) ∧ W'.cell? ⟨b, off + j * 10 + 8, none⟩ = some (.int .i64 r.st) ∧ (W'.cell? ⟨g, 0, none⟩ = some (.int .i64 r.t.f0) ∧ W'.cell? ⟨g, 1, none⟩ = some (.int .i64 r.t.f1) ∧ W'.cell? ⟨g, 2, none⟩ = some (.int .i64 r.t.f2) ∧ W'.cell? ⟨g, 3, none⟩ = some (.int .i64 r.t.f3) ∧ W'.cell? ⟨g, 4, none⟩ = some (.int .i64 r.t.f4) ∧ W'.cell? ⟨g, 5, none⟩ = some (.int .i64 r.t.f5) ∧ W'.cell? ⟨g, 6, none⟩ = some (.int .i64 r.t.f6) ∧ W'.cell? ⟨g, 7, none⟩ = some (.slice oa ol oc))) (by kernel_rfl) (HBX.out _ (by (repeat (first | exact Same.refl _ _ | apply Same.drew | apply Same.drewN | refine Same.trans' ?_ kq)); done)) (fun hHeld => ?_)
                (try simp only [Act.put, List.getElem_toArray, List.getElem_cons_succ, List.getElem_cons_zero, List.setIfInBounds_toArray, List.set_cons_zero, List.set_cons_succ])
                refine wpAnyH_take (i := 0) (v := .pointer (some ⟨rb, 0, none⟩)) rfl (by kernel_rfl) (by kernel_rfl) (by kernel_rfl) (fun _ _ _ h => h) (Or.inl ⟨by rfl, fun w hSw => by (dsimp only at hSw; go_simp)⟩) (by assumption) ?_
                (try simp only [Act.put, List.getElem_toArray, List.getElem_cons_zero, List.setIfInBounds_toArray, List.set_cons_zero, List.set_cons_succ])
                refine wpAnyH_take (i := 1) (v := .pointer (some ⟨rb, 0, none⟩)) rfl (by kernel_rfl) (by kernel_rfl) (by kernel_rfl) (fun _ _ _ h => h) (Or.inl ⟨by rfl, fun w hSw => by (dsimp only at hSw; go_simp)⟩) (by assumption) ?_
                (try simp only [Act.put, List.getElem_toArray, List.getElem_cons_succ, List.getElem_cons_zero, List.setIfInBounds_toArray, List.set_cons_zero, List.set_cons_succ])
                refine wpAnyH_take (i := 2) (v := .pointer (some ⟨rb, 3, none⟩)) rfl (by kernel_rfl) (by kernel_rfl) (by kernel_rfl) (fun _ _ _ h => h) (Or.inl ⟨by rfl, fun w hSw => by (dsimp only at hSw; go_simp)⟩) (by assumption) ?_
                (try simp only [Act.put, List.getElem_toArray, List.getElem_cons_succ, List.getElem_cons_zero, List.setIfInBounds_toArray, List.set_cons_zero, List.set_cons_succ])
                refine wpAnyH_take (i := 3) (v := .slice (some ⟨b, off, none⟩) L cap) rfl (by kernel_rfl) (by kernel_rfl) (by kernel_rfl) (fun _ _ _ h => h) (Or.inl ⟨by rfl, fun w hSw => by (dsimp only at hSw; go_simp)⟩) (by assumption) ?_
                (try simp only [Act.put, List.getElem_toArray, List.getElem_cons_succ, List.getElem_cons_zero, List.setIfInBounds_toArray, List.set_cons_zero, List.set_cons_succ])
                refine wpAnyH_take (i := 4) (v := .int .i64 (j : Int)) rfl (by kernel_rfl) (by kernel_rfl) (by kernel_rfl) (fun _ _ _ h => h) (Or.inl ⟨by rfl, fun w hSw => by (dsimp only at hSw; go_simp)⟩) (by assumption) ?_
                (try simp only [Act.put, List.getElem_toArray, List.getElem_cons_succ, List.getElem_cons_zero, List.setIfInBounds_toArray, List.set_cons_zero, List.set_cons_succ])
                refine wpAnyH_take (i := 5) (v := .pointer (some ⟨b, off + j * 10, none⟩)) rfl (by kernel_rfl) (by kernel_rfl) (by kernel_rfl) (fun _ _ _ h => h) (Or.inl ⟨by rfl, fun w hSw => by (dsimp only at hSw; go_simp)⟩) (by assumption) ?_
                (try simp only [Act.put, List.getElem_toArray, List.getElem_cons_succ, List.getElem_cons_zero, List.setIfInBounds_toArray, List.set_cons_zero, List.set_cons_succ])
                refine wpAnyH_take (i := 6) (v := .pointer (some ⟨b, off + j * 10 + 8, none⟩)) rfl (by kernel_rfl) (by kernel_rfl) (by kernel_rfl) (fun _ _ _ h => h) (Or.inl ⟨by rfl, fun w hSw => by (dsimp only at hSw; go_simp)⟩) (by assumption) ?_
                (try simp only [Act.put, List.getElem_toArray, List.getElem_cons_succ, List.getElem_cons_zero, List.setIfInBounds_toArray, List.set_cons_zero, List.set_cons_succ])
                refine wpAnyH_take (i := 7) (v := .int .i64 r.st) rfl (by kernel_rfl) (by kernel_rfl) (by kernel_rfl) (fun _ _ _ h => h) (Or.inl ⟨by rfl, fun w hSw => by (dsimp only at hSw; go_simp)⟩) (by assumption) ?_
                (try simp only [Act.put, List.getElem_toArray, List.getElem_cons_succ, List.getElem_cons_zero, List.setIfInBounds_toArray, List.set_cons_zero, List.set_cons_succ])
                refine wpAnyH_take (i := 8) (v := .bool true) rfl (by kernel_rfl) (by kernel_rfl) (by kernel_rfl) (fun _ _ _ h => h) (Or.inl ⟨by rfl, fun w hSw => by (dsimp only at hSw; go_simp)⟩) (by assumption) ?_
                (try simp only [Act.put, List.getElem_toArray, List.getElem_cons_succ, List.getElem_cons_zero, List.setIfInBounds_toArray, List.set_cons_zero, List.set_cons_succ])
                refine wpAnyH_take (i := 9) (v := .bool true) rfl (by kernel_rfl) (by kernel_rfl) (by kernel_rfl) (fun _ _ _ h => h) (Or.inl ⟨by rfl, fun w hSw => by (dsimp only at hSw; go_simp)⟩) (by assumption) ?_
                (try simp only [Act.put, List.getElem_toArray, List.getElem_cons_succ, List.getElem_cons_zero, List.setIfInBounds_toArray, List.set_cons_zero, List.set_cons_succ])
                refine wpAnyH_take (i := 10) (v := .pointer (some ⟨g, 6, none⟩)) rfl (by kernel_rfl) (by kernel_rfl) (by kernel_rfl) (fun _ _ _ h => h) (Or.inl ⟨by rfl, fun w hSw => by (dsimp only at hSw; go_simp)⟩) (by assumption) ?_
                (try simp only [Act.put, List.getElem_toArray, List.getElem_cons_succ, List.getElem_cons_zero, List.setIfInBounds_toArray, List.set_cons_zero, List.set_cons_succ])
                refine wpAnyH_take (i := 11) (v := .int .i64 r.t.f6) rfl (by kernel_rfl) (by kernel_rfl) (by kernel_rfl) (fun _ _ _ h => h) (Or.inl ⟨by rfl, fun w hSw => by (dsimp only at hSw; go_simp)⟩) (by assumption) ?_
                (try simp only [Act.put, List.getElem_toArray, List.getElem_cons_succ, List.getElem_cons_zero, List.setIfInBounds_toArray, List.set_cons_zero, List.set_cons_succ])
                refine wpAnyH_take (i := 12) (v := .bool true) rfl (by kernel_rfl) (by kernel_rfl) (by kernel_rfl) (fun _ _ _ h => h) (Or.inl ⟨by rfl, fun w hSw => by (dsimp only at hSw; go_simp)⟩) (by assumption) ?_
                (try simp only [Act.put, List.getElem_toArray, List.getElem_cons_succ, List.getElem_cons_zero, List.setIfInBounds_toArray, List.set_cons_zero, List.set_cons_succ])
                refine wpAnyH_take (i := 13) (v := .bool true) rfl (by kernel_rfl) (by kernel_rfl) (by kernel_rfl) (fun _ _ _ h => h) (Or.inl ⟨by rfl, fun w hSw => by (dsimp only at hSw; go_simp)⟩) (by assumption) ?_
                (try simp only [Act.put, List.getElem_toArray, List.getElem_cons_succ, List.getElem_cons_zero, List.setIfInBounds_toArray, List.set_cons_zero, List.set_cons_succ])
                refine wpAnyH_take (i := 14) (v := .bool true) rfl (by kernel_rfl) (by kernel_rfl) (by kernel_rfl) (fun _ _ _ h => h) (Or.inl ⟨by rfl, fun w hSw => by (dsimp only at hSw; go_simp)⟩) (by assumption) ?_
                (try simp only [Act.put, List.getElem_toArray, List.getElem_cons_succ, List.getElem_cons_zero, List.setIfInBounds_toArray, List.set_cons_zero, List.set_cons_succ])
                refine wpAnyH_take (i := 15) (v := .pointer (some ⟨g, 3, none⟩)) rfl (by kernel_rfl) (by kernel_rfl) (by kernel_rfl) (fun _ _ _ h => h) (Or.inl ⟨by rfl, fun w hSw => by (dsimp only at hSw; go_simp)⟩) (by assumption) ?_
                (try simp only [Act.put, List.getElem_toArray, List.getElem_cons_succ, List.getElem_cons_zero, List.setIfInBounds_toArray, List.set_cons_zero, List.set_cons_succ])
                refine wpAnyH_take (i := 16) (v := .int .i64 r.t.f3) rfl (by kernel_rfl) (by kernel_rfl) (by kernel_rfl) (fun _ _ _ h => h) (Or.inl ⟨by rfl, fun w hSw => by (dsimp only at hSw; go_simp)⟩) (by assumption) ?_
                (try simp only [Act.put, List.getElem_toArray, List.getElem_cons_succ, List.getElem_cons_zero, List.setIfInBounds_toArray, List.set_cons_zero, List.set_cons_succ])
                refine wpAnyH_take (i := 17) (v := .int .i64 time) rfl (by kernel_rfl) (by kernel_rfl) (by kernel_rfl) (fun _ _ _ h => h) (Or.inl ⟨by rfl, fun w hSw => by (dsimp only at hSw; go_simp)⟩) (by assumption) ?_
                (try simp only [Act.put, List.getElem_toArray, List.getElem_cons_succ, List.getElem_cons_zero, List.setIfInBounds_toArray, List.set_cons_zero, List.set_cons_succ])
                refine wpAnyH_take (i := 18) (v := .bool true) rfl (by kernel_rfl) (by kernel_rfl) (by kernel_rfl) (fun _ _ _ h => h) (Or.inl ⟨by rfl, fun w hSw => by (dsimp only at hSw; go_simp)⟩) (by assumption) ?_
                (try simp only [Act.put, List.getElem_toArray, List.getElem_cons_succ, List.getElem_cons_zero, List.setIfInBounds_toArray, List.set_cons_zero, List.set_cons_succ])
                refine wpAnyH_take (i := 19) (v := .bool true) rfl (by kernel_rfl) (by kernel_rfl) (by kernel_rfl) (fun _ _ _ h => h) (Or.inl ⟨by rfl, fun w hSw => by (dsimp only at hSw; go_simp)⟩) (by assumption) ?_
                (try simp only [Act.put, List.getElem_toArray, List.getElem_cons_succ, List.getElem_cons_zero, List.setIfInBounds_toArray, List.set_cons_zero, List.set_cons_succ])
                refine wpAnyH_take (i := 20) (v := .bool true) rfl (by kernel_rfl) (by kernel_rfl) (by kernel_rfl) (fun _ _ _ h => h) (Or.inl ⟨by rfl, fun w hSw => by (dsimp only at hSw; go_simp)⟩) (by assumption) ?_
                (try simp only [Act.put, List.getElem_toArray, List.getElem_cons_succ, List.getElem_cons_zero, List.setIfInBounds_toArray, List.set_cons_zero, List.set_cons_succ])
                refine wpAnyH_take (i := 21) (v := txA r.t (.slice oa ol oc)) rfl (by kernel_rfl) (by kernel_rfl) (by kernel_rfl) (fun _ _ _ h => h) (Or.inl ⟨by rfl, fun w hSw => by (dsimp only at hSw; go_simp)⟩) (by assumption) ?_
                (try simp only [Act.put, List.getElem_toArray, List.getElem_cons_succ, List.getElem_cons_zero, List.setIfInBounds_toArray, List.set_cons_zero, List.set_cons_succ])
                refine wpAnyH_take (i := 22) (v := .string k) rfl (by kernel_rfl) (by kernel_rfl) (by kernel_rfl) (fun _ _ _ h => h) (Or.inl ⟨by rfl, fun w hSw => by (dsimp only at hSw; go_simp)⟩) (by assumption) ?_
                (try simp only [Act.put, List.getElem_toArray, List.getElem_cons_succ, List.getElem_cons_zero, List.setIfInBounds_toArray, List.set_cons_zero, List.set_cons_succ])
                refine wpAnyH_ready (rs := [23]) (by kernel_rfl) (by simp) (AllReadyH.cons rfl (fun K hK => ?_) AllReadyH.nil)
                go_simp
                refine Calls.mono (HLF.out _ (by (repeat (first | exact Same.refl _ _ | apply Same.drew | apply Same.drewN | refine Same.trans' ?_ kq)); done)) ?_
                rintro r2 w2 ⟨rfl, kq⟩
                go_wp2_with fail
                refine hK.out _ _ (HBX.out _ (by (repeat (first | exact Same.refl _ _ | apply Same.drew | apply Same.drewN | refine Same.trans' ?_ kq)); done)) (fun hHeld1 => ?_)
                clear hK K hHeld
                (try simp only [Act.put, List.getElem_toArray, List.getElem_cons_succ, List.getElem_cons_zero, List.setIfInBounds_toArray, List.set_cons_zero, List.set_cons_succ])
                refine wpAnyH_take (i := 24) (v := .bool false) rfl (by kernel_rfl) (by kernel_rfl) (by kernel_rfl) (fun _ _ _ h => h) (Or.inl ⟨by rfl, fun w hSw => by (dsimp only at hSw; go_simp)⟩) (by assumption) ?_
                (try simp only [Act.put, List.getElem_toArray, List.getElem_cons_succ, List.getElem_cons_zero, List.setIfInBounds_toArray, List.set_cons_zero, List.set_cons_succ])
                refine wpAnyH_take (i := 25) (v := .bool false) rfl (by kernel_rfl) (by kernel_rfl) (by kernel_rfl) (fun _ _ _ h => h) (Or.inl ⟨by rfl, fun w hSw => by (dsimp only at hSw; go_simp)⟩) (by assumption) ?_
                (try simp only [Act.put, List.getElem_toArray, List.getElem_cons_succ, List.getElem_cons_zero, List.setIfInBounds_toArray, List.set_cons_zero, List.set_cons_succ])
                refine wpAnyH_take (i := 26) (v := .bool false) rfl (by kernel_rfl) (by kernel_rfl) (by kernel_rfl) (fun _ _ _ h => h) (Or.inl ⟨by rfl, fun w hSw => by (dsimp only at hSw; go_simp)⟩) (by assumption) ?_
                (try simp only [Act.put, List.getElem_toArray, List.getElem_cons_succ, List.getElem_cons_zero, List.setIfInBounds_toArray, List.set_cons_zero, List.set_cons_succ])
                refine wpAnyH_take (i := 27) (v := undef) rfl (by kernel_rfl) (by kernel_rfl) (by kernel_rfl) (fun _ _ _ h => h) (Or.inr ⟨by rfl, rfl⟩) (by assumption) ?_
                (try simp only [Act.put, List.getElem_toArray, List.getElem_cons_succ, List.getElem_cons_zero, List.setIfInBounds_toArray, List.set_cons_zero, List.set_cons_succ])
                refine wpAnyH_take (i := 28) (v := undef) rfl (by kernel_rfl) (by kernel_rfl) (by kernel_rfl) (fun _ _ _ h => h) (Or.inr ⟨by rfl, rfl⟩) (by assumption) ?_
                (try simp only [Act.put, List.getElem_toArray, List.getElem_cons_succ, List.getElem_cons_zero, List.setIfInBounds_toArray, List.set_cons_zero, List.set_cons_succ])
                refine wpAnyH_take (i := 29) (v := undef) rfl (by kernel_rfl) (by kernel_rfl) (by kernel_rfl) (fun _ _ _ h => h) (Or.inr ⟨by rfl, rfl⟩) (by assumption) ?_
                (try simp only [Act.put, List.getElem_toArray, List.getElem_cons_succ, List.getElem_cons_zero, List.setIfInBounds_toArray, List.set_cons_zero, List.set_cons_succ])
                refine wpAnyH_take (i := 30) (v := undef) rfl (by kernel_rfl) (by kernel_rfl) (by kernel_rfl) (fun _ _ _ h => h) (Or.inr ⟨by rfl, rfl⟩) (by assumption) ?_
                (try simp only [Act.put, List.getElem_toArray, List.getElem_cons_succ, List.getElem_cons_zero, List.setIfInBounds_toArray, List.set_cons_zero, List.set_cons_succ])
                refine wpAnyH_take (i := 31) (v := undef) rfl (by kernel_rfl) (by kernel_rfl) (by kernel_rfl) (fun _ _ _ h => h) (Or.inr ⟨by rfl, rfl⟩) (by assumption) ?_
                (try simp only [Act.put, List.getElem_toArray, List.getElem_cons_succ, List.getElem_cons_zero, List.setIfInBounds_toArray, List.set_cons_zero, List.set_cons_succ])
                refine wpAnyH_take (i := 32) (v := undef) rfl (by kernel_rfl) (by kernel_rfl) (by kernel_rfl) (fun _ _ _ h => h) (Or.inr ⟨by rfl, rfl⟩) (by assumption) ?_
                (try simp only [Act.put, List.getElem_toArray, List.getElem_cons_succ, List.getElem_cons_zero, List.setIfInBounds_toArray, List.set_cons_zero, List.set_cons_succ])
                refine wpAnyH_take (i := 33) (v := undef) rfl (by kernel_rfl) (by kernel_rfl) (by kernel_rfl) (fun _ _ _ h => h) (Or.inr ⟨by rfl, rfl⟩) (by assumption) ?_
                (try simp only [Act.put, List.getElem_toArray, List.getElem_cons_succ, List.getElem_cons_zero, List.setIfInBounds_toArray, List.set_cons_zero, List.set_cons_succ])
                refine wpAnyH_take (i := 34) (v := undef) rfl (by kernel_rfl) (by kernel_rfl) (by kernel_rfl) (fun _ _ _ h => h) (Or.inr ⟨by rfl, rfl⟩) (by assumption) ?_
                (try simp only [Act.put, List.getElem_toArray, List.getElem_cons_succ, List.getElem_cons_zero, List.setIfInBounds_toArray, List.set_cons_zero, List.set_cons_succ])
                refine wpAnyH_take (i := 35) (v := undef) rfl (by kernel_rfl) (by kernel_rfl) (by kernel_rfl) (fun _ _ _ h => h) (Or.inr ⟨by rfl, rfl⟩) (by assumption) ?_
                (try simp only [Act.put, List.getElem_toArray, List.getElem_cons_succ, List.getElem_cons_zero, List.setIfInBounds_toArray, List.set_cons_zero, List.set_cons_succ])
                refine wpAnyH_take (i := 36) (v := undef) rfl (by kernel_rfl) (by kernel_rfl) (by kernel_rfl) (fun _ _ _ h => h) (Or.inr ⟨by rfl, rfl⟩) (by assumption) ?_
                (try simp only [Act.put, List.getElem_toArray, List.getElem_cons_succ, List.getElem_cons_zero, List.setIfInBounds_toArray, List.set_cons_zero, List.set_cons_succ])
                refine wpAnyH_take (i := 37) (v := undef) rfl (by kernel_rfl) (by kernel_rfl) (by kernel_rfl) (fun _ _ _ h => h) (Or.inr ⟨by rfl, rfl⟩) (by assumption) ?_
                (try simp only [Act.put, List.getElem_toArray, List.getElem_cons_succ, List.getElem_cons_zero, List.setIfInBounds_toArray, List.set_cons_zero, List.set_cons_succ])
                refine wpAnyH_take (i := 38) (v := undef) rfl (by kernel_rfl) (by kernel_rfl) (by kernel_rfl) (fun _ _ _ h => h) (Or.inr ⟨by rfl, rfl⟩) (by assumption) ?_
                (try simp only [Act.put, List.getElem_toArray, List.getElem_cons_succ, List.getElem_cons_zero, List.setIfInBounds_toArray, List.set_cons_zero, List.set_cons_succ])
                refine wpAnyH_take (i := 39) (v := undef) rfl (by kernel_rfl) (by kernel_rfl) (by kernel_rfl) (fun _ _ _ h => h) (Or.inr ⟨by rfl, rfl⟩) (by assumption) ?_
                (try simp only [Act.put, List.getElem_toArray, List.getElem_cons_succ, List.getElem_cons_zero, List.setIfInBounds_toArray, List.set_cons_zero, List.set_cons_succ])
                refine wpAnyH_take (i := 40) (v := undef) rfl (by kernel_rfl) (by kernel_rfl) (by kernel_rfl) (fun _ _ _ h => h) (Or.inr ⟨by rfl, rfl⟩) (by assumption) ?_
                (try simp only [Act.put, List.getElem_toArray, List.getElem_cons_succ, List.getElem_cons_zero, List.setIfInBounds_toArray, List.set_cons_zero, List.set_cons_succ])
                refine wpAnyH_take (i := 41) (v := undef) rfl (by kernel_rfl) (by kernel_rfl) (by kernel_rfl) (fun _ _ _ h => h) (Or.inr ⟨by rfl, rfl⟩) (by assumption) ?_
                (try simp only [Act.put, List.getElem_toArray, List.getElem_cons_succ, List.getElem_cons_zero, List.setIfInBounds_toArray, List.set_cons_zero, List.set_cons_succ])
                refine wpAnyH_take (i := 42) (v := undef) rfl (by kernel_rfl) (by kernel_rfl) (by kernel_rfl) (fun _ _ _ h => h) (Or.inr ⟨by rfl, rfl⟩) (by assumption) ?_
                (try simp only [Act.put, List.getElem_toArray, List.getElem_cons_succ, List.getElem_cons_zero, List.setIfInBounds_toArray, List.set_cons_zero, List.set_cons_succ])
                refine wpAnyH_take (i := 43) (v := .bool false) rfl (by kernel_rfl) (by kernel_rfl) (by kernel_rfl) (fun _ _ _ h => h) (Or.inl ⟨by rfl, fun w hSw => by (dsimp only at hSw; go_simp)⟩) (by assumption) ?_
                (try simp only [Act.put, List.getElem_toArray, List.getElem_cons_succ, List.getElem_cons_zero, List.setIfInBounds_toArray, List.set_cons_zero, List.set_cons_succ])
                refine wpAnyH_done (by kernel_rfl) ?_ _
                go_wp2_with fail
                go_meet
                exact ⟨rfl, (by (repeat (first | exact Same.refl _ _ | apply Same.drew | apply Same.drewN | refine Same.trans' ?_ kq)); done)⟩
              | some o =>
                have hvv : vv = bt R.all so r.t.f3 := EVV.out.trans (by simp)
                have d5 : decide ((0 : Int) ≤ (o : Int)) = true := decide_eq_true (by omega)
                have d6 : (0 : Int) ≤ (o : Int) := by omega
                cases so with
                | none =>
                  obtain rfl : vv = true := hvv
                  simp only [ix] at HLF ⊢
                  refine wp_region_held_drew (S := fun W' => Kept Y W' ∧ (W'.cell? ⟨rb, 3, none⟩ = some (.slice (some ⟨b, off, none⟩) L cap) ∧ rb < W'.heap.size) ∧ W'.cell? ⟨b, off + j * 10 + 8, none⟩ = some (.int .i64 r.st) ∧ (W'.cell? ⟨g, 0, none⟩ = some (.int .i64 r.t.f0) ∧ W'.cell? ⟨g, 1, none⟩ = some (.int .i64 r.t.f1) ∧ W'.cell? ⟨g, 2, none⟩ = some (.int .i64 r.t.f2) ∧ W'.cell? ⟨g, 3, none⟩ = some (.int .i64 r.t.f3) ∧ W'.cell? ⟨g, 4, none⟩ = some (.int .i64 r.t.f4) ∧ W'.cell? ⟨g, 5, none⟩ = some (.int .i64 r.t.f5) ∧ W'.cell? ⟨g, 6, none⟩ = some (.int .i64 r.t.f6) ∧ W'.cell? ⟨g, 7, none⟩ = some (.slice oa ol oc))) (by kernel_rfl) (HBX.out _ (by (repeat (first | exact Same.refl _ _ | apply Same.drew | apply Same.drewN | refine Same.trans' ?_ kq)); done)) (fun hHeld => ?_)
                  (try simp only [Act.put, List.getElem_toArray, List.getElem_cons_succ, List.getElem_cons_zero, List.setIfInBounds_toArray, List.set_cons_zero, List.set_cons_succ])
                  refine wpAnyH_take (i := 0) (v := .pointer (some ⟨rb, 0, none⟩)) rfl (by kernel_rfl) (by kernel_rfl) (by kernel_rfl) (fun _ _ _ h => h) (Or.inl ⟨by rfl, fun w hSw => by (dsimp only at hSw; go_simp)⟩) (by assumption) ?_
                  (try simp only [Act.put, List.getElem_toArray, List.getElem_cons_zero, List.setIfInBounds_toArray, List.set_cons_zero, List.set_cons_succ])
                  refine wpAnyH_take (i := 1) (v := .pointer (some ⟨rb, 0, none⟩)) rfl (by kernel_rfl) (by kernel_rfl) (by kernel_rfl) (fun _ _ _ h => h) (Or.inl ⟨by rfl, fun w hSw => by (dsimp only at hSw; go_simp)⟩) (by assumption) ?_
                  (try simp only [Act.put, List.getElem_toArray, List.getElem_cons_succ, List.getElem_cons_zero, List.setIfInBounds_toArray, List.set_cons_zero, List.set_cons_succ])
                  refine wpAnyH_take (i := 2) (v := .pointer (some ⟨rb, 3, none⟩)) rfl (by kernel_rfl) (by kernel_rfl) (by kernel_rfl) (fun _ _ _ h => h) (Or.inl ⟨by rfl, fun w hSw => by (dsimp only at hSw; go_simp)⟩) (by assumption) ?_
                  (try simp only [Act.put, List.getElem_toArray, List.getElem_cons_succ, List.getElem_cons_zero, List.setIfInBounds_toArray, List.set_cons_zero, List.set_cons_succ])
                  refine wpAnyH_take (i := 3) (v := .slice (some ⟨b, off, none⟩) L cap) rfl (by kernel_rfl) (by kernel_rfl) (by kernel_rfl) (fun _ _ _ h => h) (Or.inl ⟨by rfl, fun w hSw => by (dsimp only at hSw; go_simp)⟩) (by assumption) ?_
                  (try simp only [Act.put, List.getElem_toArray, List.getElem_cons_succ, List.getElem_cons_zero, List.setIfInBounds_toArray, List.set_cons_zero, List.set_cons_succ])
                  refine wpAnyH_take (i := 4) (v := .int .i64 (j : Int)) rfl (by kernel_rfl) (by kernel_rfl) (by kernel_rfl) (fun _ _ _ h => h) (Or.inl ⟨by rfl, fun w hSw => by (dsimp only at hSw; go_simp)⟩) (by assumption) ?_
                  (try simp only [Act.put, List.getElem_toArray, List.getElem_cons_succ, List.getElem_cons_zero, List.setIfInBounds_toArray, List.set_cons_zero, List.set_cons_succ])
                  refine wpAnyH_take (i := 5) (v := .pointer (some ⟨b, off + j * 10, none⟩)) rfl (by kernel_rfl) (by kernel_rfl) (by kernel_rfl) (fun _ _ _ h => h) (Or.inl ⟨by rfl, fun w hSw => by (dsimp only at hSw; go_simp)⟩) (by assumption) ?_
                  (try simp only [Act.put, List.getElem_toArray, List.getElem_cons_succ, List.getElem_cons_zero, List.setIfInBounds_toArray, List.set_cons_zero, List.set_cons_succ])
                  refine wpAnyH_take (i := 6) (v := .pointer (some ⟨b, off + j * 10 + 8, none⟩)) rfl (by kernel_rfl) (by kernel_rfl) (by kernel_rfl) (fun _ _ _ h => h) (Or.inl ⟨by rfl, fun w hSw => by (dsimp only at hSw; go_simp)⟩) (by assumption) ?_
                  (try simp only [Act.put, List.getElem_toArray, List.getElem_cons_succ, List.getElem_cons_zero, List.setIfInBounds_toArray, List.set_cons_zero, List.set_cons_succ])
                  refine wpAnyH_take (i := 7) (v := .int .i64 r.st) rfl (by kernel_rfl) (by kernel_rfl) (by kernel_rfl) (fun _ _ _ h => h) (Or.inl ⟨by rfl, fun w hSw => by (dsimp only at hSw; go_simp)⟩) (by assumption) ?_
                  (try simp only [Act.put, List.getElem_toArray, List.getElem_cons_succ, List.getElem_cons_zero, List.setIfInBounds_toArray, List.set_cons_zero, List.set_cons_succ])
                  refine wpAnyH_take (i := 8) (v := .bool true) rfl (by kernel_rfl) (by kernel_rfl) (by kernel_rfl) (fun _ _ _ h => h) (Or.inl ⟨by rfl, fun w hSw => by (dsimp only at hSw; go_simp)⟩) (by assumption) ?_
                  (try simp only [Act.put, List.getElem_toArray, List.getElem_cons_succ, List.getElem_cons_zero, List.setIfInBounds_toArray, List.set_cons_zero, List.set_cons_succ])
                  refine wpAnyH_take (i := 9) (v := .bool true) rfl (by kernel_rfl) (by kernel_rfl) (by kernel_rfl) (fun _ _ _ h => h) (Or.inl ⟨by rfl, fun w hSw => by (dsimp only at hSw; go_simp)⟩) (by assumption) ?_
                  (try simp only [Act.put, List.getElem_toArray, List.getElem_cons_succ, List.getElem_cons_zero, List.setIfInBounds_toArray, List.set_cons_zero, List.set_cons_succ])
                  refine wpAnyH_take (i := 10) (v := .pointer (some ⟨g, 6, none⟩)) rfl (by kernel_rfl) (by kernel_rfl) (by kernel_rfl) (fun _ _ _ h => h) (Or.inl ⟨by rfl, fun w hSw => by (dsimp only at hSw; go_simp)⟩) (by assumption) ?_
                  (try simp only [Act.put, List.getElem_toArray, List.getElem_cons_succ, List.getElem_cons_zero, List.setIfInBounds_toArray, List.set_cons_zero, List.set_cons_succ])
                  refine wpAnyH_take (i := 11) (v := .int .i64 r.t.f6) rfl (by kernel_rfl) (by kernel_rfl) (by kernel_rfl) (fun _ _ _ h => h) (Or.inl ⟨by rfl, fun w hSw => by (dsimp only at hSw; go_simp)⟩) (by assumption) ?_
                  (try simp only [Act.put, List.getElem_toArray, List.getElem_cons_succ, List.getElem_cons_zero, List.setIfInBounds_toArray, List.set_cons_zero, List.set_cons_succ])
                  refine wpAnyH_take (i := 12) (v := .bool true) rfl (by kernel_rfl) (by kernel_rfl) (by kernel_rfl) (fun _ _ _ h => h) (Or.inl ⟨by rfl, fun w hSw => by (dsimp only at hSw; go_simp)⟩) (by assumption) ?_
                  (try simp only [Act.put, List.getElem_toArray, List.getElem_cons_succ, List.getElem_cons_zero, List.setIfInBounds_toArray, List.set_cons_zero, List.set_cons_succ])
                  refine wpAnyH_take (i := 13) (v := .bool true) rfl (by kernel_rfl) (by kernel_rfl) (by kernel_rfl) (fun _ _ _ h => h) (Or.inl ⟨by rfl, fun w hSw => by (dsimp only at hSw; go_simp)⟩) (by assumption) ?_
                  (try simp only [Act.put, List.getElem_toArray, List.getElem_cons_succ, List.getElem_cons_zero, List.setIfInBounds_toArray, List.set_cons_zero, List.set_cons_succ])
                  refine wpAnyH_take (i := 14) (v := .bool true) rfl (by kernel_rfl) (by kernel_rfl) (by kernel_rfl) (fun _ _ _ h => h) (Or.inl ⟨by rfl, fun w hSw => by (dsimp only at hSw; go_simp)⟩) (by assumption) ?_
                  (try simp only [Act.put, List.getElem_toArray, List.getElem_cons_succ, List.getElem_cons_zero, List.setIfInBounds_toArray, List.set_cons_zero, List.set_cons_succ])
                  refine wpAnyH_take (i := 15) (v := .pointer (some ⟨g, 3, none⟩)) rfl (by kernel_rfl) (by kernel_rfl) (by kernel_rfl) (fun _ _ _ h => h) (Or.inl ⟨by rfl, fun w hSw => by (dsimp only at hSw; go_simp)⟩) (by assumption) ?_
                  (try simp only [Act.put, List.getElem_toArray, List.getElem_cons_succ, List.getElem_cons_zero, List.setIfInBounds_toArray, List.set_cons_zero, List.set_cons_succ])
                  refine wpAnyH_take (i := 16) (v := .int .i64 r.t.f3) rfl (by kernel_rfl) (by kernel_rfl) (by kernel_rfl) (fun _ _ _ h => h) (Or.inl ⟨by rfl, fun w hSw => by (dsimp only at hSw; go_simp)⟩) (by assumption) ?_
                  (try simp only [Act.put, List.getElem_toArray, List.getElem_cons_succ, List.getElem_cons_zero, List.setIfInBounds_toArray, List.set_cons_zero, List.set_cons_succ])
                  refine wpAnyH_take (i := 17) (v := .int .i64 time) rfl (by kernel_rfl) (by kernel_rfl) (by kernel_rfl) (fun _ _ _ h => h) (Or.inl ⟨by rfl, fun w hSw => by (dsimp only at hSw; go_simp)⟩) (by assumption) ?_
                  (try simp only [Act.put, List.getElem_toArray, List.getElem_cons_succ, List.getElem_cons_zero, List.setIfInBounds_toArray, List.set_cons_zero, List.set_cons_succ])
                  refine wpAnyH_take (i := 18) (v := .bool true) rfl (by kernel_rfl) (by kernel_rfl) (by kernel_rfl) (fun _ _ _ h => h) (Or.inl ⟨by rfl, fun w hSw => by (dsimp only at hSw; go_simp)⟩) (by assumption) ?_
                  (try simp only [Act.put, List.getElem_toArray, List.getElem_cons_succ, List.getElem_cons_zero, List.setIfInBounds_toArray, List.set_cons_zero, List.set_cons_succ])
                  refine wpAnyH_take (i := 19) (v := .bool true) rfl (by kernel_rfl) (by kernel_rfl) (by kernel_rfl) (fun _ _ _ h => h) (Or.inl ⟨by rfl, fun w hSw => by (dsimp only at hSw; go_simp)⟩) (by assumption) ?_
                  (try simp only [Act.put, List.getElem_toArray, List.getElem_cons_succ, List.getElem_cons_zero, List.setIfInBounds_toArray, List.set_cons_zero, List.set_cons_succ])
                  refine wpAnyH_take (i := 20) (v := .bool true) rfl (by kernel_rfl) (by kernel_rfl) (by kernel_rfl) (fun _ _ _ h => h) (Or.inl ⟨by rfl, fun w hSw => by (dsimp only at hSw; go_simp)⟩) (by assumption) ?_
                  (try simp only [Act.put, List.getElem_toArray, List.getElem_cons_succ, List.getElem_cons_zero, List.setIfInBounds_toArray, List.set_cons_zero, List.set_cons_succ])
                  refine wpAnyH_take (i := 21) (v := txA r.t (.slice oa ol oc)) rfl (by kernel_rfl) (by kernel_rfl) (by kernel_rfl) (fun _ _ _ h => h) (Or.inl ⟨by rfl, fun w hSw => by (dsimp only at hSw; go_simp)⟩) (by assumption) ?_
                  (try simp only [Act.put, List.getElem_toArray, List.getElem_cons_succ, List.getElem_cons_zero, List.setIfInBounds_toArray, List.set_cons_zero, List.set_cons_succ])
                  refine wpAnyH_take (i := 22) (v := .string k) rfl (by kernel_rfl) (by kernel_rfl) (by kernel_rfl) (fun _ _ _ h => h) (Or.inl ⟨by rfl, fun w hSw => by (dsimp only at hSw; go_simp)⟩) (by assumption) ?_
                  (try simp only [Act.put, List.getElem_toArray, List.getElem_cons_succ, List.getElem_cons_zero, List.setIfInBounds_toArray, List.set_cons_zero, List.set_cons_succ])
                  refine wpAnyH_ready (rs := [23]) (by kernel_rfl) (by simp) (AllReadyH.cons rfl (fun K hK => ?_) AllReadyH.nil)
                  go_simp
                  refine Calls.mono (HLF.out _ (by (repeat (first | exact Same.refl _ _ | apply Same.drew | apply Same.drewN | refine Same.trans' ?_ kq)); done)) ?_
                  rintro r2 w2 ⟨rfl, kq⟩
                  go_wp2_with fail
                  refine hK.out _ _ (HBX.out _ (by (repeat (first | exact Same.refl _ _ | apply Same.drew | apply Same.drewN | refine Same.trans' ?_ kq)); done)) (fun hHeld1 => ?_)
                  clear hK K hHeld
                  (try simp only [Act.put, List.getElem_toArray, List.getElem_cons_succ, List.getElem_cons_zero, List.setIfInBounds_toArray, List.set_cons_zero, List.set_cons_succ])
                  refine wpAnyH_take (i := 24) (v := .bool true) rfl (by kernel_rfl) (by kernel_rfl) (by kernel_rfl) (fun _ _ _ h => h) (Or.inl ⟨by rfl, fun w hSw => by (dsimp only at hSw; go_simp)⟩) (by assumption) ?_
                  (try simp only [Act.put, List.getElem_toArray, List.getElem_cons_succ, List.getElem_cons_zero, List.setIfInBounds_toArray, List.set_cons_zero, List.set_cons_succ])
                  refine wpAnyH_take (i := 25) (v := .bool true) rfl (by kernel_rfl) (by kernel_rfl) (by kernel_rfl) (fun _ _ _ h => h) (Or.inl ⟨by rfl, fun w hSw => by (dsimp only at hSw; go_simp)⟩) (by assumption) ?_
                  (try simp only [Act.put, List.getElem_toArray, List.getElem_cons_succ, List.getElem_cons_zero, List.setIfInBounds_toArray, List.set_cons_zero, List.set_cons_succ])
                  refine wpAnyH_take (i := 26) (v := .bool true) rfl (by kernel_rfl) (by kernel_rfl) (by kernel_rfl) (fun _ _ _ h => h) (Or.inl ⟨by rfl, fun w hSw => by (dsimp only at hSw; go_simp)⟩) (by assumption) ?_
                  (try simp only [Act.put, List.getElem_toArray, List.getElem_cons_succ, List.getElem_cons_zero, List.setIfInBounds_toArray, List.set_cons_zero, List.set_cons_succ])
                  refine wpAnyH_take (i := 27) (v := .int .i64 (-1)) rfl (by kernel_rfl) (by kernel_rfl) (by kernel_rfl) (fun _ _ _ h => h) (Or.inl ⟨by rfl, fun w hSw => by (dsimp only at hSw; go_simp)⟩) (by assumption) ?_
                  (try simp only [Act.put, List.getElem_toArray, List.getElem_cons_succ, List.getElem_cons_zero, List.setIfInBounds_toArray, List.set_cons_zero, List.set_cons_succ])
                  refine wpAnyH_take (i := 28) (v := .bool true) rfl (by kernel_rfl) (by kernel_rfl) (by kernel_rfl) (fun _ _ _ h => h) (Or.inl ⟨by rfl, fun w hSw => by (dsimp only at hSw; go_simp)⟩) (by assumption) ?_
                  (try simp only [Act.put, List.getElem_toArray, List.getElem_cons_succ, List.getElem_cons_zero, List.setIfInBounds_toArray, List.set_cons_zero, List.set_cons_succ])
                  refine wpAnyH_take (i := 29) (v := .bool true) rfl (by kernel_rfl) (by kernel_rfl) (by kernel_rfl) (fun _ _ _ h => h) (Or.inl ⟨by rfl, fun w hSw => by (dsimp only at hSw; go_simp)⟩) (by assumption) ?_
                  (try simp only [Act.put, List.getElem_toArray, List.getElem_cons_succ, List.getElem_cons_zero, List.setIfInBounds_toArray, List.set_cons_zero, List.set_cons_succ])
                  refine wpAnyH_take (i := 30) (v := undef) rfl (by kernel_rfl) (by kernel_rfl) (by kernel_rfl) (fun _ _ _ h => h) (Or.inr ⟨by rfl, rfl⟩) (by assumption) ?_
                  (try simp only [Act.put, List.getElem_toArray, List.getElem_cons_succ, List.getElem_cons_zero, List.setIfInBounds_toArray, List.set_cons_zero, List.set_cons_succ])
                  refine wpAnyH_take (i := 31) (v := undef) rfl (by kernel_rfl) (by kernel_rfl) (by kernel_rfl) (fun _ _ _ h => h) (Or.inr ⟨by rfl, rfl⟩) (by assumption) ?_
                  (try simp only [Act.put, List.getElem_toArray, List.getElem_cons_succ, List.getElem_cons_zero, List.setIfInBounds_toArray, List.set_cons_zero, List.set_cons_succ])
                  refine wpAnyH_take (i := 32) (v := undef) rfl (by kernel_rfl) (by kernel_rfl) (by kernel_rfl) (fun _ _ _ h => h) (Or.inr ⟨by rfl, rfl⟩) (by assumption) ?_
                  (try simp only [Act.put, List.getElem_toArray, List.getElem_cons_succ, List.getElem_cons_zero, List.setIfInBounds_toArray, List.set_cons_zero, List.set_cons_succ])
                  refine wpAnyH_take (i := 33) (v := undef) rfl (by kernel_rfl) (by kernel_rfl) (by kernel_rfl) (fun _ _ _ h => h) (Or.inr ⟨by rfl, rfl⟩) (by assumption) ?_
                  (try simp only [Act.put, List.getElem_toArray, List.getElem_cons_succ, List.getElem_cons_zero, List.setIfInBounds_toArray, List.set_cons_zero, List.set_cons_succ])
                  refine wpAnyH_take (i := 34) (v := undef) rfl (by kernel_rfl) (by kernel_rfl) (by kernel_rfl) (fun _ _ _ h => h) (Or.inr ⟨by rfl, rfl⟩) (by assumption) ?_
                  (try simp only [Act.put, List.getElem_toArray, List.getElem_cons_succ, List.getElem_cons_zero, List.setIfInBounds_toArray, List.set_cons_zero, List.set_cons_succ])
                  refine wpAnyH_take (i := 35) (v := undef) rfl (by kernel_rfl) (by kernel_rfl) (by kernel_rfl) (fun _ _ _ h => h) (Or.inr ⟨by rfl, rfl⟩) (by assumption) ?_
                  (try simp only [Act.put, List.getElem_toArray, List.getElem_cons_succ, List.getElem_cons_zero, List.setIfInBounds_toArray, List.set_cons_zero, List.set_cons_succ])
                  refine wpAnyH_take (i := 36) (v := undef) rfl (by kernel_rfl) (by kernel_rfl) (by kernel_rfl) (fun _ _ _ h => h) (Or.inr ⟨by rfl, rfl⟩) (by assumption) ?_
                  (try simp only [Act.put, List.getElem_toArray, List.getElem_cons_succ, List.getElem_cons_zero, List.setIfInBounds_toArray, List.set_cons_zero, List.set_cons_succ])
                  refine wpAnyH_take (i := 37) (v := undef) rfl (by kernel_rfl) (by kernel_rfl) (by kernel_rfl) (fun _ _ _ h => h) (Or.inr ⟨by rfl, rfl⟩) (by assumption) ?_
                  (try simp only [Act.put, List.getElem_toArray, List.getElem_cons_succ, List.getElem_cons_zero, List.setIfInBounds_toArray, List.set_cons_zero, List.set_cons_succ])
                  refine wpAnyH_take (i := 38) (v := undef) rfl (by kernel_rfl) (by kernel_rfl) (by kernel_rfl) (fun _ _ _ h => h) (Or.inr ⟨by rfl, rfl⟩) (by assumption) ?_
                  (try simp only [Act.put, List.getElem_toArray, List.getElem_cons_succ, List.getElem_cons_zero, List.setIfInBounds_toArray, List.set_cons_zero, List.set_cons_succ])
                  refine wpAnyH_take (i := 39) (v := undef) rfl (by kernel_rfl) (by kernel_rfl) (by kernel_rfl) (fun _ _ _ h => h) (Or.inr ⟨by rfl, rfl⟩) (by assumption) ?_
                  (try simp only [Act.put, List.getElem_toArray, List.getElem_cons_succ, List.getElem_cons_zero, List.setIfInBounds_toArray, List.set_cons_zero, List.set_cons_succ])
                  refine wpAnyH_take (i := 40) (v := undef) rfl (by kernel_rfl) (by kernel_rfl) (by kernel_rfl) (fun _ _ _ h => h) (Or.inr ⟨by rfl, rfl⟩) (by assumption) ?_
                  (try simp only [Act.put, List.getElem_toArray, List.getElem_cons_succ, List.getElem_cons_zero, List.setIfInBounds_toArray, List.set_cons_zero, List.set_cons_succ])
                  refine wpAnyH_take (i := 41) (v := undef) rfl (by kernel_rfl) (by kernel_rfl) (by kernel_rfl) (fun _ _ _ h => h) (Or.inr ⟨by rfl, rfl⟩) (by assumption) ?_
                  (try simp only [Act.put, List.getElem_toArray, List.getElem_cons_succ, List.getElem_cons_zero, List.setIfInBounds_toArray, List.set_cons_zero, List.set_cons_succ])
                  refine wpAnyH_take (i := 42) (v := .bool true) rfl (by kernel_rfl) (by kernel_rfl) (by kernel_rfl) (fun _ _ _ h => h) (Or.inl ⟨by rfl, fun w hSw => by (dsimp only at hSw; go_simp)⟩) (by assumption) ?_
                  (try simp only [Act.put, List.getElem_toArray, List.getElem_cons_succ, List.getElem_cons_zero, List.setIfInBounds_toArray, List.set_cons_zero, List.set_cons_succ])
                  refine wpAnyH_take (i := 43) (v := .bool true) rfl (by kernel_rfl) (by kernel_rfl) (by kernel_rfl) (fun _ _ _ h => h) (Or.inl ⟨by rfl, fun w hSw => by (dsimp only at hSw; go_simp)⟩) (by assumption) ?_
                  (try simp only [Act.put, List.getElem_toArray, List.getElem_cons_succ, List.getElem_cons_zero, List.setIfInBounds_toArray, List.set_cons_zero, List.set_cons_succ])
                  refine wpAnyH_done (by kernel_rfl) ?_ _
                  go_wp2_with fail
                  go_meet
                  exact ⟨rfl, (by (repeat (first | exact Same.refl _ _ | apply Same.drew | apply Same.drewN | refine Same.trans' ?_ kq)); done)⟩
                | some q =>
                  obtain ⟨hqL, rq, oq, cq, tq, dq, hgq, hRq⟩ := HSB1.out q rfl
                  have z3 := hRq.c3
                  have hv2 : vv = decide (rq.t.f3 < r.t.f3) := by rw [hvv]; unfold bt; simp only; rw [hgq]
                  have d7 : decide ((q : Int) < 0) = false := decide_eq_false (by omega)
                  have d8 : (q : Int) < (L : Int) := by omega
                  have d9 : (0 : Int) ≤ (q : Int) := by omega
                  have d10 : ¬ ((q : Int) < 0) := by omega
                  have HBY : Hid (∀ W', Kept Y W' → (Kept Y W' ∧ W'.cell? ⟨b, off + q * 10 + 3, none⟩ = some (.int .i64 rq.t.f3) ∧ (W'.cell? ⟨rb, 3, none⟩ = some (.slice (some ⟨b, off, none⟩) L cap) ∧ rb < W'.heap.size) ∧ W'.cell? ⟨b, off + j * 10 + 8, none⟩ = some (.int .i64 r.st) ∧ (W'.cell? ⟨g, 0, none⟩ = some (.int .i64 r.t.f0) ∧ W'.cell? ⟨g, 1, none⟩ = some (.int .i64 r.t.f1) ∧ W'.cell? ⟨g, 2, none⟩ = some (.int .i64 r.t.f2) ∧ W'.cell? ⟨g, 3, none⟩ = some (.int .i64 r.t.f3) ∧ W'.cell? ⟨g, 4, none⟩ = some (.int .i64 r.t.f4) ∧ W'.cell? ⟨g, 5, none⟩ = some (.int .i64 r.t.f5) ∧ W'.cell? ⟨g, 6, none⟩ = some (.int .i64 r.t.f6) ∧ W'.cell? ⟨g, 7, none⟩ = some (.slice oa ol oc)))) := fun W' k' => ⟨k', (k'.cell (p := ⟨b, _, none⟩) hbY (fun e => e)).trans z3, (HBX.out W' k').2⟩
                  simp only [ix] at HLF ⊢
                  have d11 : decide (rq.t.f3 < r.t.f3) = vv := hv2.symm
                  clear hvv hv2 hRq hgq EVV
                  cases vv
                  · go_region_held3 (fun W' => Kept Y W' ∧ W'.cell? ⟨b, off + q * 10 + 3, none⟩ = some (.int .i64 rq.t.f3) ∧ (W'.cell? ⟨rb, 3, none⟩ = some (.slice (some ⟨b, off, none⟩) L cap) ∧ rb < W'.heap.size) ∧ W'.cell? ⟨b, off + j * 10 + 8, none⟩ = some (.int .i64 r.st) ∧ (W'.cell? ⟨g, 0, none⟩ = some (.int .i64 r.t.f0) ∧ W'.cell? ⟨g, 1, none⟩ = some (.int .i64 r.t.f1) ∧ W'.cell? ⟨g, 2, none⟩ = some (.int .i64 r.t.f2) ∧ W'.cell? ⟨g, 3, none⟩ = some (.int .i64 r.t.f3) ∧ W'.cell? ⟨g, 4, none⟩ = some (.int .i64 r.t.f4) ∧ W'.cell? ⟨g, 5, none⟩ = some (.int .i64 r.t.f5) ∧ W'.cell? ⟨g, 6, none⟩ = some (.int .i64 r.t.f6) ∧ W'.cell? ⟨g, 7, none⟩ = some (.slice oa ol oc)))
                      (exact HBY.out _ (by (repeat (first | exact Same.refl _ _ | apply Same.drew | apply Same.drewN | refine Same.trans' ?_ kq)); done))
                      ((go_at_call 74; refine Calls.mono (HLF.out _ (by (repeat (first | exact Same.refl _ _ | apply Same.drew | apply Same.drewN | refine Same.trans' ?_ kq)); done)) ?_; rintro r2 w2 ⟨rfl, kq⟩))
                    all_goals
                      go_wp2_with fail
                      go_meet
                      exact ⟨rfl, (by (repeat (first | exact Same.refl _ _ | apply Same.drew | apply Same.drewN | refine Same.trans' ?_ kq)); done)⟩
                  · go_region_held3 (fun W' => Kept Y W' ∧ W'.cell? ⟨b, off + q * 10 + 3, none⟩ = some (.int .i64 rq.t.f3) ∧ (W'.cell? ⟨rb, 3, none⟩ = some (.slice (some ⟨b, off, none⟩) L cap) ∧ rb < W'.heap.size) ∧ W'.cell? ⟨b, off + j * 10 + 8, none⟩ = some (.int .i64 r.st) ∧ (W'.cell? ⟨g, 0, none⟩ = some (.int .i64 r.t.f0) ∧ W'.cell? ⟨g, 1, none⟩ = some (.int .i64 r.t.f1) ∧ W'.cell? ⟨g, 2, none⟩ = some (.int .i64 r.t.f2) ∧ W'.cell? ⟨g, 3, none⟩ = some (.int .i64 r.t.f3) ∧ W'.cell? ⟨g, 4, none⟩ = some (.int .i64 r.t.f4) ∧ W'.cell? ⟨g, 5, none⟩ = some (.int .i64 r.t.f5) ∧ W'.cell? ⟨g, 6, none⟩ = some (.int .i64 r.t.f6) ∧ W'.cell? ⟨g, 7, none⟩ = some (.slice oa ol oc)))
                      (exact HBY.out _ (by (repeat (first | exact Same.refl _ _ | apply Same.drew | apply Same.drewN | refine Same.trans' ?_ kq)); done))
                      ((go_at_call 74; refine Calls.mono (HLF.out _ (by (repeat (first | exact Same.refl _ _ | apply Same.drew | apply Same.drewN | refine Same.trans' ?_ kq)); done)) ?_; rintro r2 w2 ⟨rfl, kq⟩))
                    all_goals
                      go_wp2_with fail
                      go_meet
                      exact ⟨rfl, (by (repeat (first | exact Same.refl _ _ | apply Same.drew | apply Same.drewN | refine Same.trans' ?_ kq)); done)⟩
      case rest =>
        obtain ⟨rfl, kz⟩ := hcut
        rename World => Z
        have KZ : Hid (Kept w Z) := Same.trans' KK.out (Same.trans' K1.out kz)
        clear kz HLF t0' t1 t2 t3 t4 t5 t6 t7 q8 y3 hrl
        cases vv
        · go_wp2_with fail
          go_roundw
          case rel => exact ⟨j + 1, by simp, by rw [show rSeen R.all k time (j + 1) = _ from HNX.out]; rfl, by omega, KZ.out⟩
          case measure => simp only [intOf]; omega
        · go_wp2_with fail
          go_roundw
          case rel => exact ⟨j + 1, by simp, by rw [show rSeen R.all k time (j + 1) = _ from HNX.out]; rfl, by omega, KZ.out⟩
          case measure => simp only [intOf]; omega
    · have c1 : decide ((j : Int) < (L : Int)) = false := by simp only [decide_eq_false_iff_not]; omega
      obtain rfl : L = j := by omega
      rw [show rSeen R.all k time L = fo from HFO.out]
      go_wp2_with fail
      go_ret
      exact ⟨rfl, KK.out⟩
end Go.Proofs.Ytbjmdpfoeeadeaa.Ch.Mc

namespace Go.Proofs.Ytbjmdpfoeeadeaa.Ch.Mc
open Go.RowKit

abbrev opcO (o : OpM) : Obj := .cells #[.int .i64 o.kind, .string o.key, .bool o.found, .string o.value] 79 (0, 0)
theorem opc_cells {w : World} {g : Nat} {o : OpM} (h : w.heap[g]? = some (opcO o)) : w.cell? ⟨g, 0, none⟩ = some (.int .i64 o.kind) ∧ w.cell? ⟨g, 1, none⟩ = some (.string o.key) ∧ w.cell? ⟨g, 2, none⟩ = some (.bool o.found) ∧ w.cell? ⟨g, 3, none⟩ = some (.string o.value) :=
  ⟨(cell_of h 0).trans rfl, (cell_of h 1).trans rfl, (cell_of h 2).trans rfl, (cell_of h 3).trans rfl⟩
set_option maxRecDepth 100000 in
set_option maxHeartbeats 1600000 in
theorem rheld_none {w : World} {rb : Nat} (k : ByteArray) : Calls Try.prog 75 #[.pointer (some ⟨rb, 0, none⟩), .int .i64 (-1), .string k] w fun e w' => e = .returned (.tuple #[.string e0, .bool false]) ∧ Kept w w' := by
  go_enter Try.func75, Try.ntmps75
  go_wp2_with fail
  refine bodyPost_ret (results_tmp2 rfl _ _ _) rfl ?_
  exact ⟨rfl, Same.refl _ _⟩
set_option maxRecDepth 100000 in
set_option maxHeartbeats 3200000 in
theorem rheld_some {w : World} {rb n : Nat} {fl : Int} {R : Rr} {a : Option Addr} {cap : Nat} {ev : Value} (h : Rd w rb n fl R a cap ev) (hs : Sml R) {i : Nat} (hi : i < R.all.length) (k : ByteArray) (hl : (lastW (gR R.all i).t.ops k).isSome = true) :
    Calls Try.prog 75 #[.pointer (some ⟨rb, 0, none⟩), .int .i64 (i : Int), .string k] w fun e w' => e = .returned (.tuple #[.string (rHeld R.all (some i) k).2, .bool (rHeld R.all (some i) k).1]) ∧ Kept w w' := by
  obtain ⟨b, off, oa, oc, ta, tc, rfl, hb, hR⟩ := h.run i _ (gR_at hi)
  have hn := hs.n
  have hol := (hs.o _ (List.mem_of_getElem? (gR_at hi))).1
  rw [show rHeld R.all (some i) k = ((opL (gR R.all i).t k).found, (opL (gR R.all i).t k).value) from rfl]
  unfold opL
  obtain ⟨r, er⟩ : ∃ r, r = gR R.all i := ⟨_, rfl⟩
  rw [← er] at hR hol hl ⊢
  cases el : lastW r.t.ops k with
  | none => rw [el] at hl; cases hl
  | some p =>
    simp only
    have hp := lastW_lt el
    obtain ⟨o, ho⟩ : ∃ o, r.t.ops[p]? = some o := ⟨_, List.getElem?_eq_getElem hp⟩
    have hgd : r.t.ops.getD p z0 = o := by rw [List.getD_eq_getElem?_getD, ho]; rfl
    rw [hgd]
    obtain ⟨b2, off2, rfl, hb2, p0, p1, p2, p3⟩ := hR.ops p o ho
    have HLF : Hid (∀ W', Kept w W' → Calls Try.prog 74 #[txA r.t (.slice (some ⟨b2, off2, none⟩) r.t.ops.length oc), .string k] W' fun e w' => e = .returned (.int .i64 (p : Int)) ∧ Kept W' w') := fun W' k' => by
      have h9 := rleft15 W' r.t _ oc (hR.ops.on k') (by omega) k
      rw [el] at h9
      exact h9
    have y3 := h.c3
    have hrl := h.lt
    have q0 := hR.c0
    have q1 := hR.c1
    have q2 := hR.c2
    have q3 := hR.c3
    have q4 := hR.c4
    have q5 := hR.c5
    have q6 := hR.c6
    have q7 := hR.c7
    obtain ⟨L, eL⟩ : ∃ L, L = R.all.length := ⟨_, rfl⟩
    rw [← eL] at hn y3 hi
    obtain ⟨ol, eol⟩ : ∃ ol, ol = r.t.ops.length := ⟨_, rfl⟩
    rw [← eol] at hol hp q7 HLF
    have d1 : ¬ ((i : Int) < 0) := by omega
    have d2 : decide ((i : Int) < 0) = false := decide_eq_false d1
    have d3 : (i : Int) < (L : Int) := by omega
    have d4 : (0 : Int) ≤ (i : Int) := by omega
    have d5 : (p : Int) < (ol : Int) := by omega
    have d6 : (0 : Int) ≤ (p : Int) := by omega
    have HBX : Hid (∀ W', Kept w W' → Kept w W' ∧ (W'.cell? ⟨rb, 3, none⟩ = some (.slice (some ⟨b, off, none⟩) L cap) ∧ rb < W'.heap.size) ∧ (W'.cell? ⟨b, off + i * 10, none⟩ = some (.int .i64 r.t.f0) ∧ W'.cell? ⟨b, off + i * 10 + 1, none⟩ = some (.int .i64 r.t.f1) ∧ W'.cell? ⟨b, off + i * 10 + 2, none⟩ = some (.int .i64 r.t.f2) ∧ W'.cell? ⟨b, off + i * 10 + 3, none⟩ = some (.int .i64 r.t.f3) ∧ W'.cell? ⟨b, off + i * 10 + 4, none⟩ = some (.int .i64 r.t.f4) ∧ W'.cell? ⟨b, off + i * 10 + 5, none⟩ = some (.int .i64 r.t.f5) ∧ W'.cell? ⟨b, off + i * 10 + 6, none⟩ = some (.int .i64 r.t.f6) ∧ W'.cell? ⟨b, off + i * 10 + 7, none⟩ = some (.slice (some ⟨b2, off2, none⟩) ol oc)) ∧ (W'.cell? ⟨b2, off2 + p * 4, none⟩ = some (.int .i64 o.kind) ∧ W'.cell? ⟨b2, off2 + p * 4 + 1, none⟩ = some (.string o.key) ∧ W'.cell? ⟨b2, off2 + p * 4 + 2, none⟩ = some (.bool o.found) ∧ W'.cell? ⟨b2, off2 + p * 4 + 3, none⟩ = some (.string o.value))) := fun W' k' =>
      have t : ∀ x, W'.cell? ⟨b, x, none⟩ = w.cell? ⟨b, x, none⟩ := fun x => k'.cell (p := ⟨b, x, none⟩) hb (fun e => e)
      have t2 : ∀ x, W'.cell? ⟨b2, x, none⟩ = w.cell? ⟨b2, x, none⟩ := fun x => k'.cell (p := ⟨b2, x, none⟩) hb2 (fun e => e)
      ⟨k', ⟨(k'.cell (p := ⟨rb, 3, none⟩) hrl (fun e => e)).trans y3, Nat.lt_of_lt_of_le hrl k'.size⟩, ⟨(t _).trans q0, (t _).trans q1, (t _).trans q2, (t _).trans q3, (t _).trans q4, (t _).trans q5, (t _).trans q6, (t _).trans q7⟩, ⟨(t2 _).trans p0, (t2 _).trans p1, (t2 _).trans p2, (t2 _).trans p3⟩⟩
    have HLF3 : Hid (∀ (W' : World) (g : Nat), W'.heap[g]? = some (opcO z0) → Kept w W' → Calls Try.prog 74 #[txA r.t (.slice (some ⟨b2, off2, none⟩) ol oc), .string k] W' fun e w' => e = .returned (.int .i64 (p : Int)) ∧ Kept W' w' ∧ w'.heap[g]? = some (opcO z0) ∧ (w'.cell? ⟨g, 0, none⟩ = some (.int .i64 0) ∧ w'.cell? ⟨g, 1, none⟩ = some (.string ⟨#[]⟩) ∧ w'.cell? ⟨g, 2, none⟩ = some (.bool false) ∧ w'.cell? ⟨g, 3, none⟩ = some (.string ⟨#[]⟩)) ∧ w'.frozen? ⟨g, 0, none⟩ = false ∧ w'.frozen? ⟨g, 1, none⟩ = false ∧ w'.frozen? ⟨g, 2, none⟩ = false ∧ w'.frozen? ⟨g, 3, none⟩ = false ∧ g < w'.heap.size) := fun W' g hg k' => (HLF.out W' k').mono fun e w' h9 => have h8 := (h9.2.block g (lt_of_heap hg) (fun e => e)).trans hg; ⟨h9.1, h9.2, h8, opc_cells h8, frozen_of h8 0, frozen_of h8 1, frozen_of h8 2, frozen_of h8 3, lt_of_heap h8⟩
    clear h hs hR er hl el ho hgd eL eol
    go_enter Try.func75, Try.ntmps75
    go_upto_region 3 with fail
    go_cut [8] (fun s8 wx => ∃ g8, s8 = .pointer (some ⟨g8, 0, none⟩) ∧ wx.heap[g8]? = some (opcO o) ∧ Kept w wx)
    case first =>
      go_region_held3 (fun W' => Kept w W' ∧ (W'.cell? ⟨rb, 3, none⟩ = some (.slice (some ⟨b, off, none⟩) L cap) ∧ rb < W'.heap.size) ∧ (W'.cell? ⟨b, off + i * 10, none⟩ = some (.int .i64 r.t.f0) ∧ W'.cell? ⟨b, off + i * 10 + 1, none⟩ = some (.int .i64 r.t.f1) ∧ W'.cell? ⟨b, off + i * 10 + 2, none⟩ = some (.int .i64 r.t.f2) ∧ W'.cell? ⟨b, off + i * 10 + 3, none⟩ = some (.int .i64 r.t.f3) ∧ W'.cell? ⟨b, off + i * 10 + 4, none⟩ = some (.int .i64 r.t.f4) ∧ W'.cell? ⟨b, off + i * 10 + 5, none⟩ = some (.int .i64 r.t.f5) ∧ W'.cell? ⟨b, off + i * 10 + 6, none⟩ = some (.int .i64 r.t.f6) ∧ W'.cell? ⟨b, off + i * 10 + 7, none⟩ = some (.slice (some ⟨b2, off2, none⟩) ol oc)) ∧ (W'.cell? ⟨b2, off2 + p * 4, none⟩ = some (.int .i64 o.kind) ∧ W'.cell? ⟨b2, off2 + p * 4 + 1, none⟩ = some (.string o.key) ∧ W'.cell? ⟨b2, off2 + p * 4 + 2, none⟩ = some (.bool o.found) ∧ W'.cell? ⟨b2, off2 + p * 4 + 3, none⟩ = some (.string o.value)))
        (exact HBX.out _ (by (repeat (first | assumption | exact Same.refl _ _ | apply Same.alloc | apply Same.drew | apply Same.drewN | refine put4_same ?_ (.inl (Nat.le_refl _)) _ _ _ _ | refine Same.trans' ?_ kq)); done))
        (first
        | (go_at_call 74; refine Calls.mono (HLF3.out _ w.heap.size ?_ ?_) ?_; (focus (exact heap_new _ _)); (focus ((repeat (first | exact Same.refl _ _ | apply Same.alloc | apply Same.drew | apply Same.drewN)); done)); rintro r3 w4 ⟨rfl, kq, hg9, ⟨b0, b1, b2', b3⟩, f0, f1, f2, f3, hg4⟩; have HG9 : Hid (w4.heap[w.heap.size]? = some (opcO z0)) := hg9; clear hg9)
        | (go_at_call 74; refine Calls.mono (HLF.out _ ?_) ?_; (focus ((repeat (first | exact Same.refl _ _ | apply Same.alloc | apply Same.drew | apply Same.drewN)); done)); rintro r3 w4 ⟨rfl, kq⟩))
      all_goals
        go_wp2_with fail
        go_meet
        first
        | exact ⟨_, rfl, put4 HG9.out _ _ _ _, (by (repeat (first | exact Same.refl _ _ | apply Same.alloc | apply Same.drew | apply Same.drewN | refine put4_same ?_ (.inl (Nat.le_refl _)) _ _ _ _ | refine Same.trans' ?_ kq)); done)⟩
        | exact ⟨_, rfl, heap_new _ _, (by (repeat (first | exact Same.refl _ _ | apply Same.alloc | apply Same.drew | apply Same.drewN | refine put4_same ?_ (.inl (Nat.le_refl _)) _ _ _ _ | refine Same.trans' ?_ kq)); done)⟩
    case rest =>
      rename World => Z
      obtain ⟨g8, rfl, hg8, kz⟩ := hcut
      obtain ⟨y0, y1, y2, y4⟩ := opc_cells hg8
      have KZ : Hid (Kept w Z) := kz
      have hl8 := lt_of_heap hg8
      clear hg8 kz
      go_wp2_with fail
      go_quiet (fail)
      go_wp2_with fail
      refine bodyPost_ret (results_tmp2 rfl _ _ _) rfl ?_
      exact ⟨rfl, Same.drewN KZ.out _⟩
end Go.Proofs.Ytbjmdpfoeeadeaa.Ch.Mc

namespace Go.Proofs.Ytbjmdpfoeeadeaa.Ch.Mc
open Go.RowKit

set_option maxRecDepth 100000 in
set_option maxHeartbeats 3200000 in
theorem rdirty15 {w : World} {rb n : Nat} {fl : Int} {R : Rr} {a : Option Addr} {cap : Nat} {ev : Value} (h : Rd w rb n fl R a cap ev) (hs : Sml R) (i : Nat) (k : ByteArray) :
    Calls Try.prog 76 #[.pointer (some ⟨rb, 0, none⟩), .int .i64 (i : Int), .string k] w fun e w' => e = .returned (.int .i64 (ix (rDirt R.all i k R.all.length).1)) ∧ Kept w w' := by
  have HH : Hid (Rd w rb n fl R a cap ev) := h
  have hn := hs.n
  have HS : Hid (Sml R) := hs
  obtain ⟨L, eL⟩ : ∃ L, L = R.all.length := ⟨_, rfl⟩
  rw [← eL] at hn ⊢
  have EL : Hid (L = R.all.length) := eL
  clear h eL hs
  generalize hso : (rDirt R.all i k L).1 = fo
  have HFO : Hid ((rDirt R.all i k L).1 = fo) := hso
  clear hso
  go_enter Try.func76, Try.ntmps76
  go_wp2_with fail
  go_loopw [7, 8, 9] (fun s7 s8 s9 wr => ∃ j : Nat, s9 = .int .i64 j ∧ s7 = .int .i64 (ix (rDirt R.all i k j).1) ∧ s8 = .int .i64 (rDirt R.all i k j).2 ∧ j ≤ L ∧ Kept w wr) (fun _ _ s9 _ => L - (intOf s9).toNat)
  case atStart => exact ⟨0, rfl, rfl, rfl, Nat.zero_le _, Same.refl _ _⟩
  case round =>
    obtain ⟨j, rfl, rfl, rfl, hj, kk⟩ := hrel
    have KK : Hid (Kept w wr) := kk
    have hrd := HH.out.on kk
    have HRD : Hid (Rd wr rb n fl R a cap ev) := hrd
    have y3 := hrd.c3
    have hrl := hrd.lt
    rw [← show L = _ from EL.out] at y3
    clear kk hrd
    by_cases hlt : j < L
    · have c1 : decide ((j : Int) < (L : Int)) = true := by simp only [decide_eq_true_eq]; omega
      have hlt2 : (j : Int) < (L : Int) := by omega
      have hlt3 : (0 : Int) ≤ (j : Int) := by omega
      obtain ⟨r, hr⟩ : ∃ r, R.all[j]? = some r := ⟨_, List.getElem?_eq_getElem (by rw [← show L = _ from EL.out]; exact hlt)⟩
      have hgr : gR R.all j = r := gR_of hr
      obtain ⟨hol, hts⟩ := HS.out.o r (List.mem_of_getElem? hr)
      obtain ⟨b, off, oa, oc, ta, tc, rfl, hb, hR⟩ := HRD.out.run j r hr
      have HRR : Hid (Run wr b off j r oa oc ta tc) := hR
      obtain ⟨so, wo, eso⟩ : ∃ so wo, (so, wo) = rDirt R.all i k j := ⟨_, _, rfl⟩
      have HNX : Hid (rDirt R.all i k (j + 1) = match lastW r.t.ops k with
          | none => (so, wo)
          | some o => if j ≠ i ∧ r.st = 0 ∧ wo < r.ts.getD o 0 then (some j, r.ts.getD o 0) else (so, wo)) := by
        show rDirt R.all i k (j + 1) = _
        rw [rDirt, hgr, ← eso]
        cases lastW r.t.ops k <;> rfl
      rw [← eso]
      simp only
      have HLF : Hid (∀ W', Kept wr W' → Calls Try.prog 74 #[txA r.t (.slice oa r.t.ops.length oc), .string k] W' fun e w' => e = .returned (.int .i64 (ix (lastW r.t.ops k))) ∧ Kept W' w') := fun W' k' => rleft15 W' r.t oa oc (HRR.out.ops.on k') (by omega) k
      have HLL : Hid (∀ p, lastW r.t.ops k = some p → p < r.ts.length) := fun p hp => by rw [hts]; exact lastW_lt hp
      obtain ⟨ol, eol⟩ : ∃ ol, ol = r.t.ops.length := ⟨_, rfl⟩
      obtain ⟨tl, etl⟩ : ∃ tl, tl = r.ts.length := ⟨_, rfl⟩
      have q0 := hR.c0
      have q1 := hR.c1
      have q2 := hR.c2
      have q3 := hR.c3
      have q4 := hR.c4
      have q5 := hR.c5
      have q6 := hR.c6
      have q7 := hR.c7
      rw [← eol] at q7 HLF hol
      rw [← etl] at HLL
      have ETL : Hid (tl = r.ts.length) := etl
      clear hr hgr hR eso hts eol etl
      generalize hlo : lastW r.t.ops k = lo at *
      clear hlo
      go_wp2_with fail
      refine Calls.mono (HLF.out wr (Same.refl _ _)) ?_
      rintro r2 w2 ⟨rfl, k2⟩
      have KZ : Hid (Kept w w2) := Same.trans' KK.out k2
      have hrd2 := HRD.out.on k2
      clear y3 hrl q0 q1 q2 q3 q4 q5 q6 q7 HLF
      have y3 := hrd2.c3
      rw [← show L = _ from EL.out] at y3
      have hrl := hrd2.lt
      have hR2 := HRR.out.on hb k2
      have hb2 : b < w2.heap.size := Nat.lt_of_lt_of_le hb k2.size
      have q8 := hR2.c8
      have q9 := hR2.c9
      rw [← show tl = r.ts.length from ETL.out] at q9
      have HTS : Hid (IntsAt w2 ta r.ts) := hR2.ts
      clear hrd2 hR2 k2 hb HRR
      have HIJ : Hid (j = i → ((j : Int) != (i : Int)) = false) := fun e => by rw [e]; simp
      have HIK : Hid (j ≠ i → ((j : Int) != (i : Int)) = true) := fun e => by simp; omega
      by_cases hji : j = i
      · have e1 := HIJ.out hji
        have HN2 : Hid (rDirt R.all i k (j + 1) = (so, wo)) := (show rDirt R.all i k (j + 1) = _ from HNX.out).trans (by cases lo with | none => rfl | some o => exact if_neg (fun h9 => h9.1 hji))
        clear hji HNX
        go_wp2_with fail
        go_roundw
        case rel => exact ⟨j + 1, by simp, by rw [show rDirt R.all i k (j + 1) = _ from HN2.out], by rw [show rDirt R.all i k (j + 1) = _ from HN2.out], by omega, KZ.out⟩
        case measure => simp only [intOf]; omega
      · have e1 := HIK.out hji
        cases e2 : (r.st == 0)
        · have hst : r.st ≠ 0 := by simpa using e2
          have HN2 : Hid (rDirt R.all i k (j + 1) = (so, wo)) := (show rDirt R.all i k (j + 1) = _ from HNX.out).trans (by cases lo with | none => rfl | some o => exact if_neg (fun h9 => hst h9.2.1))
          clear hji HNX hst
          go_wp2_with fail
          go_roundw
          case rel => exact ⟨j + 1, by simp, by rw [show rDirt R.all i k (j + 1) = _ from HN2.out], by rw [show rDirt R.all i k (j + 1) = _ from HN2.out], by omega, KZ.out⟩
          case measure => simp only [intOf]; omega
        · have hst : r.st = 0 := by simpa using e2
          cases lo with
          | none =>
            have HN2 : Hid (rDirt R.all i k (j + 1) = (so, wo)) := HNX.out
            rw [show ix none = (-1 : Int) from rfl]
            clear hji HNX hst
            go_wp2_with fail
            go_roundw
            case rel => exact ⟨j + 1, by simp, by rw [show rDirt R.all i k (j + 1) = _ from HN2.out], by rw [show rDirt R.all i k (j + 1) = _ from HN2.out], by omega, KZ.out⟩
            case measure => simp only [intOf]; omega
          | some p =>
            have hpl := HLL.out p rfl
            obtain ⟨x, hx⟩ : ∃ x, r.ts[p]? = some x := ⟨_, List.getElem?_eq_getElem (by rw [← show tl = r.ts.length from ETL.out]; exact hpl)⟩
            have hgx : r.ts.getD p 0 = x := by rw [List.getD_eq_getElem?_getD, hx]; rfl
            obtain ⟨b3, off3, rfl, hb3, z0'⟩ := HTS.out p x hx
            have d1 : (0 : Int) ≤ (p : Int) := by omega
            have d2 : decide ((0 : Int) ≤ (p : Int)) = true := decide_eq_true d1
            have d3 : (p : Int) < (tl : Int) := by omega
            rw [show ix (some p) = (p : Int) from rfl]
            by_cases hw : wo < x
            · have e3 : decide (wo < x) = true := decide_eq_true hw
              have HN2 : Hid (rDirt R.all i k (j + 1) = (some j, x)) := (show rDirt R.all i k (j + 1) = _ from HNX.out).trans (by simp only; rw [hgx]; exact if_pos ⟨hji, hst, hw⟩)
              clear hji HNX hst hx hgx
              go_wp2_with fail
              go_roundw
              case rel => exact ⟨j + 1, by simp, by rw [show rDirt R.all i k (j + 1) = _ from HN2.out]; rfl, by rw [show rDirt R.all i k (j + 1) = _ from HN2.out], by omega, KZ.out⟩
              case measure => simp only [intOf]; omega
            · have e3 : decide (wo < x) = false := decide_eq_false hw
              have HN2 : Hid (rDirt R.all i k (j + 1) = (so, wo)) := (show rDirt R.all i k (j + 1) = _ from HNX.out).trans (by simp only; rw [hgx]; exact if_neg (fun h9 => hw h9.2.2))
              clear hji HNX hst hx hgx
              go_wp2_with fail
              go_roundw
              case rel => exact ⟨j + 1, by simp, by rw [show rDirt R.all i k (j + 1) = _ from HN2.out], by rw [show rDirt R.all i k (j + 1) = _ from HN2.out], by omega, KZ.out⟩
              case measure => simp only [intOf]; omega
    · have c1 : decide ((j : Int) < (L : Int)) = false := by simp only [decide_eq_false_iff_not]; omega
      obtain rfl : L = j := by omega
      rw [show (rDirt R.all i k L).1 = fo from HFO.out]
      go_wp2_with fail
      go_ret
      exact ⟨rfl, KK.out⟩
end Go.Proofs.Ytbjmdpfoeeadeaa.Ch.Mc

namespace Go.Proofs.Ytbjmdpfoeeadeaa.Ch.Mc
open Go.RowKit

theorem rSee_in {l : List Rn} {k : ByteArray} {t : Int} {b : Nat} (h : rSee l k t = some b) : b < l.length ∧ (lastW (gR l b).t.ops k).isSome = true := by
  have h' : rSeen l k t l.length = some b := h
  rcases rSeen_spec l k t l.length with ⟨h1, -⟩ | ⟨b', h1, h2, h3, -⟩
  · rw [h'] at h1; cases h1
  · rw [h'] at h1
    cases h1
    exact ⟨h2, (vis_iff.1 h3).2.2.2⟩
/-- held, of what is seen. -/
theorem rheld15 {w : World} {rb n : Nat} {fl : Int} {R : Rr} {a : Option Addr} {cap : Nat} {ev : Value} (h : Rd w rb n fl R a cap ev) (hs : Sml R) (k : ByteArray) (o : Option Nat) (ho : ∀ b, o = some b → b < R.all.length ∧ (lastW (gR R.all b).t.ops k).isSome = true) :
    Calls Try.prog 75 #[.pointer (some ⟨rb, 0, none⟩), .int .i64 (ix o), .string k] w fun e w' => e = .returned (.tuple #[.string (rHeld R.all o k).2, .bool (rHeld R.all o k).1]) ∧ Kept w w' := by
  cases o with
  | none => exact rheld_none k
  | some b => exact rheld_some h hs (ho b rfl).1 k (ho b rfl).2
theorem rDirt_in {l : List Rn} {i : Nat} {k : ByteArray} (n : Nat) {b : Nat} (h : (rDirt l i k n).1 = some b) : b < n ∧ (lastW (gR l b).t.ops k).isSome = true := by
  induction n with
  | zero => cases h
  | succ n ih =>
    rw [rDirt] at h
    cases el : lastW (gR l n).t.ops k with
    | none =>
      rw [el] at h
      have := ih h
      exact ⟨by omega, this.2⟩
    | some o =>
      rw [el] at h
      simp only at h
      split at h
      · simp only [Option.some.injEq] at h
        subst h
        exact ⟨by omega, by rw [el]; rfl⟩
      · have := ih h
        exact ⟨by omega, this.2⟩
set_option maxRecDepth 100000 in
set_option maxHeartbeats 3200000 in
theorem rread15 {w : World} {rb n : Nat} {fl : Int} {R : Rr} {a : Option Addr} {cap : Nat} {ev : Value} (h : Rd w rb n fl R a cap ev) (hs : Sml R) {i : Nat} (hi : i < R.all.length) (hf3 : ∀ r ∈ R.all, -1099511627776 ≤ r.t.f3 ∧ r.t.f3 ≤ 1099511627776) (k : ByteArray) :
    Calls Try.prog 64 #[.pointer (some ⟨rb, 0, none⟩), .int .i64 (i : Int), .string k] w fun e w' => e = .returned (.tuple #[.string (rRead fl R.clock R.all i k).2, .bool (rRead fl R.clock R.all i k).1]) ∧ Kept w w' := by
  obtain ⟨b, off, oa, oc, ta, tc, rfl, hb, hR⟩ := h.run i _ (gR_at hi)
  have hn := hs.n
  have hol := (hs.o _ (List.mem_of_getElem? (gR_at hi))).1
  obtain ⟨rv, erv⟩ : ∃ rv, rv = rRead fl R.clock R.all i k := ⟨_, rfl⟩
  rw [← erv]
  unfold rRead at erv
  have HHI : Hid (∀ (W' : World), Kept w W' → (lastW (gR R.all i).t.ops k).isSome = true → _) := fun W' k' hl => rheld_some (h.on k') hs hi k hl
  obtain ⟨r, er⟩ : ∃ r, r = gR R.all i := ⟨_, rfl⟩
  rw [← er] at hR hol erv HHI
  have ERV : Hid _ := erv
  have K0 : Hid (Kept w (w.alloc (txO r.t (.slice oa r.t.ops.length oc)))) := (Same.refl _ w).alloc _
  have G0 : Hid _ := heap_new w (txO r.t (.slice oa r.t.ops.length oc))
  have HSE : Hid (∀ (W' : World) (t : Int), Kept w W' → _) := fun W' t k' => rseen15 (h.on k') hs k t
  have HDI : Hid (∀ (W' : World), Kept w W' → _) := fun W' k' => rdirty15 (h.on k') hs i k
  have HHE : Hid (∀ (W' : World) (o : Option Nat), (∀ b, o = some b → b < R.all.length ∧ (lastW (gR R.all b).t.ops k).isSome = true) → Kept w W' → _) := fun W' o ho k' => rheld15 (h.on k') hs k o ho
  have HLF : Hid (∀ (W' : World), Kept w W' → Calls Try.prog 74 #[txA r.t (.slice oa r.t.ops.length oc), .string k] W' fun e w' => e = .returned (.int .i64 (ix (lastW r.t.ops k))) ∧ Kept W' w') := fun W' k' => rleft15 W' r.t oa oc (hR.ops.on k') (by omega) k
  have HRD : Hid (Rd w rb n fl R (some ⟨b, off, none⟩) cap ev) := h
  have HRU : Hid (∀ q, q < R.all.length → ∃ oq cq tq dq, Run w b off q (gR R.all q) oq cq tq dq) := fun q hq => by
    obtain ⟨b3, off3, oq, cq, tq, dq, eb, -, h9⟩ := h.run q _ (gR_at hq)
    cases eb
    exact ⟨oq, cq, tq, dq, h9⟩
  have HF3 : Hid (∀ q, q < R.all.length → -1099511627776 ≤ (gR R.all q).t.f3 ∧ (gR R.all q).t.f3 ≤ 1099511627776) := fun q hq => hf3 _ (List.mem_of_getElem? (gR_at hq))
  have y3 := h.c3
  have hrl := h.lt
  have q0 := hR.c0
  have q1 := hR.c1
  have q2 := hR.c2
  have q3 := hR.c3
  have q4 := hR.c4
  have q5 := hR.c5
  have q6 := hR.c6
  have q7 := hR.c7
  obtain ⟨L, eL⟩ : ∃ L, L = R.all.length := ⟨_, rfl⟩
  rw [← eL] at hn y3 hi
  obtain ⟨ol, eol⟩ : ∃ ol, ol = r.t.ops.length := ⟨_, rfl⟩
  rw [← eol] at hol q7 HLF K0 G0
  have EL : Hid (L = R.all.length) := eL
  have d3 : (i : Int) < (L : Int) := by omega
  have d4 : (0 : Int) ≤ (i : Int) := by omega
  clear h hs hR er eol eL erv hf3
  go_enter Try.func64, Try.ntmps64
  go_upto_region 2 with fail
  generalize w.alloc (txO r.t (.slice oa ol oc)) = W at *
  generalize hgg : w.heap.size = g at G0 ⊢
  clear hgg q0 q1 q2 q3 q4 q5 q6 q7
  have HC : Hid (∀ W', Kept W W' → (W'.cell? ⟨rb, 1, none⟩ = some (.int .i64 fl) ∧ W'.cell? ⟨rb, 2, none⟩ = some (.int .i64 R.clock) ∧ W'.cell? ⟨rb, 3, none⟩ = some (.slice (some ⟨b, off, none⟩) L cap) ∧ rb < W'.heap.size) ∧ (W'.cell? ⟨g, 0, none⟩ = some (.int .i64 r.t.f0) ∧ W'.cell? ⟨g, 1, none⟩ = some (.int .i64 r.t.f1) ∧ W'.cell? ⟨g, 2, none⟩ = some (.int .i64 r.t.f2) ∧ W'.cell? ⟨g, 3, none⟩ = some (.int .i64 r.t.f3) ∧ W'.cell? ⟨g, 4, none⟩ = some (.int .i64 r.t.f4) ∧ W'.cell? ⟨g, 5, none⟩ = some (.int .i64 r.t.f5) ∧ W'.cell? ⟨g, 6, none⟩ = some (.int .i64 r.t.f6) ∧ W'.cell? ⟨g, 7, none⟩ = some (.slice oa ol oc)) ∧ g < W'.heap.size) := fun W' k' => by
    have hd := HRD.out.on (Same.trans' K0.out k')
    have hg' := (k'.block g (lt_of_heap G0.out) (fun e => e)).trans G0.out
    exact ⟨⟨hd.c1, hd.c2, by rw [show L = _ from EL.out]; exact hd.c3, hd.lt⟩, tx_cells hg', lt_of_heap hg'⟩
  clear y3 hrl
  obtain ⟨⟨m1, m2, m3, hrl⟩, ⟨t0', t1, t2, t3, t4, t5, t6, t7⟩, hg⟩ := HC.out W (Same.refl _ _)
  generalize hlo : lastW r.t.ops k = lo at *
  clear hlo
  go_wp2_with fail
  refine Calls.mono (HLF.out W K0.out) ?_
  rintro r2 w2 ⟨rfl, k2⟩
  have K2 : Hid (Kept W w2) := k2
  clear k2 HLF
  clear m1 m2 m3 hrl t0' t1 t2 t3 t4 t5 t6 t7 hg
  obtain ⟨⟨m1, m2, m3, hrl⟩, ⟨t0', t1, t2, t3, t4, t5, t6, t7⟩, hg⟩ := HC.out w2 K2.out
  cases lo with
  | some p =>
    have EV : Hid (rv = rHeld R.all (some i) k) := (show rv = _ from ERV.out).trans (if_pos rfl)
    rw [show ix (some p) = (p : Int) from rfl]
    have e1 : decide ((0 : Int) ≤ (p : Int)) = true := decide_eq_true (by omega)
    have e2 : (0 : Int) ≤ (p : Int) := by omega
    go_wp2_with fail
    refine Calls.mono (HHI.out w2 (Same.trans' K0.out K2.out) rfl) ?_
    rintro r9 w9 ⟨rfl, k9⟩
    have K9 : Hid (Kept w w9) := Same.trans' (Same.trans' K0.out K2.out) k9
    clear k9
    go_wp2_with fail
    refine bodyPost_ret (results_tmp2 rfl _ _ _) rfl ?_
    exact ⟨by rw [show rv = _ from EV.out]; rfl, K9.out⟩
  | none =>
    rw [show ix none = (-1 : Int) from rfl]
    have ERV2 : Hid (rv = rHeld R.all (if fl = 4 ∧ (rDirt R.all i k R.all.length).1.isSome = true then (rDirt R.all i k R.all.length).1 else if fl = 3 then (rSee R.all k (if fl = 2 then R.clock else r.t.f2)).bind fun b => rSee R.all k ((gR R.all b).t.f3 - 1) else rSee R.all k (if fl = 2 then R.clock else r.t.f2)) k) := (show rv = _ from ERV.out).trans (if_neg (by simp))
    clear ERV HHI
    go_wp2_with fail
    refine Calls.mono (HSE.out w2 r.t.f2 (Same.trans' K0.out K2.out)) ?_
    rintro r3 w3 ⟨rfl, k3⟩
    have K3 : Hid (Kept W w3) := Same.trans' K2.out k3
    clear k3
    clear m1 m2 m3 hrl t0' t1 t2 t3 t4 t5 t6 t7 hg
    obtain ⟨⟨m1, m2, m3, hrl⟩, ⟨t0', t1, t2, t3, t4, t5, t6, t7⟩, hg⟩ := HC.out w3 K3.out
    by_cases f2 : fl = 2
    · subst f2
      have EV : Hid (rv = rHeld R.all (rSee R.all k R.clock) k) := (show rv = _ from ERV2.out).trans (by simp)
      go_wp2_with fail
      refine Calls.mono (HSE.out w3 R.clock (Same.trans' K0.out K3.out)) ?_
      rintro r3 w4 ⟨rfl, k4⟩
      have K4 : Hid (Kept W w4) := Same.trans' K3.out k4
      clear k4
      clear m1 m2 m3 hrl t0' t1 t2 t3 t4 t5 t6 t7 hg
      obtain ⟨⟨m1, m2, m3, hrl⟩, ⟨t0', t1, t2, t3, t4, t5, t6, t7⟩, hg⟩ := HC.out w4 K4.out
      go_wp2_with fail
      refine Calls.mono (HHE.out w4 _ (fun b hb => rSee_in hb) (Same.trans' K0.out K4.out)) ?_
      rintro r9 w9 ⟨rfl, k9⟩
      have K9 : Hid (Kept w w9) := Same.trans' (Same.trans' K0.out K4.out) k9
      clear k9
      go_wp2_with fail
      refine bodyPost_ret (results_tmp2 rfl _ _ _) rfl ?_
      exact ⟨by rw [show rv = _ from EV.out]; rfl, K9.out⟩
    by_cases f3 : fl = 3
    · subst f3
      have EV0 : Hid (rv = rHeld R.all ((rSee R.all k r.t.f2).bind fun b => rSee R.all k ((gR R.all b).t.f3 - 1)) k) := (show rv = _ from ERV2.out).trans (by simp)
      cases hs2 : rSee R.all k r.t.f2 with
      | none =>
        have EV : Hid (rv = rHeld R.all none k) := (show rv = _ from EV0.out).trans (by rw [hs2]; rfl)
        clear hs2
        rw [show ix none = (-1 : Int) from rfl]
        go_wp2_with fail
        refine Calls.mono (HHE.out w3 none (fun b (hb : none = some b) => by cases hb) (Same.trans' K0.out K3.out)) ?_
        rintro r9 w9 ⟨rfl, k9⟩
        have K9 : Hid (Kept w w9) := Same.trans' (Same.trans' K0.out K3.out) k9
        clear k9
        go_wp2_with fail
        refine bodyPost_ret (results_tmp2 rfl _ _ _) rfl ?_
        exact ⟨by rw [show rv = _ from EV.out]; rfl, K9.out⟩
      | some q =>
        have hq := rSee_in hs2
        have EV : Hid (rv = rHeld R.all (rSee R.all k ((gR R.all q).t.f3 - 1)) k) := (show rv = _ from EV0.out).trans (by rw [hs2]; rfl)
        obtain ⟨oq, cq, tq, dq, hRq⟩ := HRU.out q hq.1
        have hfq := HF3.out q hq.1
        have z3 := (hRq.on hb (Same.trans' K0.out K3.out)).c3
        have hb3 : b < w3.heap.size := Nat.lt_of_lt_of_le hb (Same.trans' K0.out K3.out).size
        have dq1 : (q : Int) < (L : Int) := by have h9 := hq.1; have h8 : L = R.all.length := EL.out; omega
        have dq2 : decide ((0 : Int) ≤ (q : Int)) = true := decide_eq_true (by omega)
        have dq3 : (0 : Int) ≤ (q : Int) := by omega
        clear hs2 hq hRq
        rw [show ix (some q) = (q : Int) from rfl]
        generalize (gR R.all q).t.f3 = fq at *
        have wq : IntKind.i64.wrap (fq - 1) = fq - 1 := by rw [IntKind.wrap_i64]; omega
        go_wp2_with fail
        refine Calls.mono (HSE.out w3 (fq - 1) (Same.trans' K0.out K3.out)) ?_
        rintro r3 w4 ⟨rfl, k4⟩
        have K4 : Hid (Kept W w4) := Same.trans' K3.out k4
        clear k4
        clear m1 m2 m3 hrl t0' t1 t2 t3 t4 t5 t6 t7 hg
        obtain ⟨⟨m1, m2, m3, hrl⟩, ⟨t0', t1, t2, t3, t4, t5, t6, t7⟩, hg⟩ := HC.out w4 K4.out
        go_wp2_with fail
        refine Calls.mono (HHE.out w4 _ (fun b hb => rSee_in hb) (Same.trans' K0.out K4.out)) ?_
        rintro r9 w9 ⟨rfl, k9⟩
        have K9 : Hid (Kept w w9) := Same.trans' (Same.trans' K0.out K4.out) k9
        clear k9
        go_wp2_with fail
        refine bodyPost_ret (results_tmp2 rfl _ _ _) rfl ?_
        exact ⟨by rw [show rv = _ from EV.out]; rfl, K9.out⟩
    by_cases f4 : fl = 4
    · subst f4
      go_wp2_with fail
      refine Calls.mono (HDI.out w3 (Same.trans' K0.out K3.out)) ?_
      rintro r4 w4 ⟨rfl, k4⟩
      have K4 : Hid (Kept W w4) := Same.trans' K3.out k4
      clear k4
      clear m1 m2 m3 hrl t0' t1 t2 t3 t4 t5 t6 t7 hg
      obtain ⟨⟨m1, m2, m3, hrl⟩, ⟨t0', t1, t2, t3, t4, t5, t6, t7⟩, hg⟩ := HC.out w4 K4.out
      cases hs2 : (rDirt R.all i k R.all.length).1 with
      | none =>
        have EV : Hid (rv = rHeld R.all (rSee R.all k r.t.f2) k) := (show rv = _ from ERV2.out).trans (by rw [hs2]; simp)
        clear hs2
        rw [show ix none = (-1 : Int) from rfl]
        go_wp2_with fail
        refine Calls.mono (HHE.out w4 _ (fun b hb => rSee_in hb) (Same.trans' K0.out K4.out)) ?_
        rintro r9 w9 ⟨rfl, k9⟩
        have K9 : Hid (Kept w w9) := Same.trans' (Same.trans' K0.out K4.out) k9
        clear k9
        go_wp2_with fail
        refine bodyPost_ret (results_tmp2 rfl _ _ _) rfl ?_
        exact ⟨by rw [show rv = _ from EV.out]; rfl, K9.out⟩
      | some q =>
        have hq := rDirt_in _ hs2
        have EV : Hid (rv = rHeld R.all (some q) k) := (show rv = _ from ERV2.out).trans (by rw [hs2]; simp)
        have dq2 : decide ((0 : Int) ≤ (q : Int)) = true := decide_eq_true (by omega)
        have dq3 : (0 : Int) ≤ (q : Int) := by omega
        have HQ : Hid _ := hq
        clear hs2 hq
        rw [show ix (some q) = (q : Int) from rfl]
        go_wp2_with fail
        refine Calls.mono (HHE.out w4 (some q) (fun b (hb : some q = some b) => by cases hb; exact HQ.out) (Same.trans' K0.out K4.out)) ?_
        rintro r9 w9 ⟨rfl, k9⟩
        have K9 : Hid (Kept w w9) := Same.trans' (Same.trans' K0.out K4.out) k9
        clear k9
        go_wp2_with fail
        refine bodyPost_ret (results_tmp2 rfl _ _ _) rfl ?_
        exact ⟨by rw [show rv = _ from EV.out]; rfl, K9.out⟩
    have EV : Hid (rv = rHeld R.all (rSee R.all k r.t.f2) k) := (show rv = _ from ERV2.out).trans (by rw [if_neg (fun h9 => f4 h9.1), if_neg f3, if_neg f2])
    have g2 : (fl == 2) = false := by simpa using f2
    have g3 : (fl == 3) = false := by simpa using f3
    have g4 : (fl == 4) = false := by simpa using f4
    go_wp2_with fail
    refine Calls.mono (HHE.out w3 _ (fun b hb => rSee_in hb) (Same.trans' K0.out K3.out)) ?_
    rintro r9 w9 ⟨rfl, k9⟩
    have K9 : Hid (Kept w w9) := Same.trans' (Same.trans' K0.out K3.out) k9
    clear k9
    go_wp2_with fail
    refine bodyPost_ret (results_tmp2 rfl _ _ _) rfl ?_
    exact ⟨by rw [show rv = _ from EV.out]; rfl, K9.out⟩
end Go.Proofs.Ytbjmdpfoeeadeaa.Ch.Mc

namespace Go.Proofs.Ytbjmdpfoeeadeaa.Ch.Mc
open Go.RowKit

set_option maxRecDepth 100000 in
set_option maxHeartbeats 3200000 in
theorem rpasses15 {w : World} {rb n : Nat} {fl : Int} {R : Rr} {a : Option Addr} {cap : Nat} {ev : Value} (h : Rd w rb n fl R a cap ev) (hs : Sml R) {i : Nat} (hi : i < R.all.length) :
    Calls Try.prog 63 #[.pointer (some ⟨rb, 0, none⟩), .int .i64 (i : Int)] w fun e w' => e = .returned (.bool (rPass fl R.clock R.all (gR R.all i).t)) ∧ Kept w w' := by
  obtain ⟨b, off, oa, oc, ta, tc, rfl, hb, hR⟩ := h.run i _ (gR_at hi)
  have hn := hs.n
  have hol := (hs.o _ (List.mem_of_getElem? (gR_at hi))).1
  obtain ⟨r, er⟩ : ∃ r, r = gR R.all i := ⟨_, rfl⟩
  rw [← er] at hR hol ⊢
  obtain ⟨rv, erv⟩ : ∃ rv, rv = rPass fl R.clock R.all r.t := ⟨_, rfl⟩
  rw [← erv]
  have HPF : Hid (∀ (o : OpM), o ∈ r.t.ops → late1 R.all R.clock r.t.f2 o = true → fl ≠ 1 → rv = false) := fun o h1 h2 h3 => by
    rw [erv]
    unfold rPass
    rw [List.any_eq_true.2 ⟨o, h1, h2⟩]
    simp [h3]
  have HPT : Hid ((fl = 1 ∨ ∀ o ∈ r.t.ops, late1 R.all R.clock r.t.f2 o = false) → rv = true) := fun h1 => by
    rw [erv]
    unfold rPass
    rcases h1 with h1 | h1
    · simp [h1]
    · rw [List.any_eq_false.2 (fun o ho => by rw [h1 o ho]; decide)]
      simp
  have K0 : Hid (Kept w (w.alloc (txO r.t (.slice oa r.t.ops.length oc)))) := (Same.refl _ w).alloc _
  have G0 : Hid _ := heap_new w (txO r.t (.slice oa r.t.ops.length oc))
  have HSE : Hid (∀ (W' : World) (k : ByteArray), Kept w W' → _) := fun W' k k' => rseen15 (h.on k') hs k R.clock
  have HRD : Hid (Rd w rb n fl R (some ⟨b, off, none⟩) cap ev) := h
  have HRU : Hid (∀ q, q < R.all.length → ∃ oq cq tq dq, Run w b off q (gR R.all q) oq cq tq dq) := fun q hq => by
    obtain ⟨b3, off3, oq, cq, tq, dq, eb, -, h9⟩ := h.run q _ (gR_at hq)
    cases eb
    exact ⟨oq, cq, tq, dq, h9⟩
  have HOP : Hid (OpsAt w oa r.t.ops) := hR.ops
  have HB : Hid (b < w.heap.size) := hb
  have y3 := h.c3
  have hrl := h.lt
  have q0 := hR.c0
  have q1 := hR.c1
  have q2 := hR.c2
  have q3 := hR.c3
  have q4 := hR.c4
  have q5 := hR.c5
  have q6 := hR.c6
  have q7 := hR.c7
  obtain ⟨L, eL⟩ : ∃ L, L = R.all.length := ⟨_, rfl⟩
  rw [← eL] at hn y3 hi
  obtain ⟨ol, eol⟩ : ∃ ol, ol = r.t.ops.length := ⟨_, rfl⟩
  rw [← eol] at hol q7 K0 G0
  have EL : Hid (L = R.all.length) := eL
  have EO : Hid (ol = r.t.ops.length) := eol
  have d3 : (i : Int) < (L : Int) := by omega
  have d4 : (0 : Int) ≤ (i : Int) := by omega
  clear h hs hR er eol eL erv
  go_enter Try.func63, Try.ntmps63
  go_upto_region 2 with fail
  generalize w.alloc (txO r.t (.slice oa ol oc)) = W at *
  generalize hgg : w.heap.size = g at G0 ⊢
  clear hgg q0 q1 q2 q3 q4 q5 q6 q7 y3 hrl d3 d4
  have HC : Hid (∀ W', Kept W W' → (W'.cell? ⟨rb, 1, none⟩ = some (.int .i64 fl) ∧ W'.cell? ⟨rb, 2, none⟩ = some (.int .i64 R.clock) ∧ W'.cell? ⟨rb, 3, none⟩ = some (.slice (some ⟨b, off, none⟩) L cap) ∧ rb < W'.heap.size) ∧ (W'.cell? ⟨g, 2, none⟩ = some (.int .i64 r.t.f2) ∧ W'.cell? ⟨g, 7, none⟩ = some (.slice oa ol oc)) ∧ g < W'.heap.size) := fun W' k' => by
    have hd := HRD.out.on (Same.trans' K0.out k')
    have hg' := (k'.block g (lt_of_heap G0.out) (fun e => e)).trans G0.out
    obtain ⟨-, -, t2, -, -, -, -, t7⟩ := tx_cells hg'
    exact ⟨⟨hd.c1, hd.c2, by rw [show L = _ from EL.out]; exact hd.c3, hd.lt⟩, ⟨t2, t7⟩, lt_of_heap hg'⟩
  go_wp2_with fail
  go_loopw [6] (fun s6 wr => ∃ j : Nat, s6 = .int .i64 j ∧ j ≤ ol ∧ Kept W wr ∧ (fl ≠ 1 → ∀ o ∈ r.t.ops.take j, late1 R.all R.clock r.t.f2 o = false)) (fun s6 _ => ol - (intOf s6).toNat)
  case atStart => exact ⟨0, rfl, Nat.zero_le _, Same.refl _ _, fun _ o ho => by simp at ho⟩
  case round =>
    obtain ⟨j, rfl, hj, kk, hno⟩ := hrel
    have KK : Hid (Kept W wr) := kk
    have HNO : Hid (fl ≠ 1 → ∀ o ∈ r.t.ops.take j, late1 R.all R.clock r.t.f2 o = false) := hno
    obtain ⟨⟨m1, m2, m3, hrl⟩, ⟨t2, t7⟩, hg⟩ := HC.out wr kk
    clear kk hno
    by_cases hlt : j < ol
    · have c1 : decide ((j : Int) < (ol : Int)) = true := by simp only [decide_eq_true_eq]; omega
      have c2 : (j : Int) < (ol : Int) := by omega
      have c3 : (0 : Int) ≤ (j : Int) := by omega
      by_cases hf : fl = 1
      · subst hf
        have HV : Hid (rv = true) := HPT.out (.inl rfl)
        go_wp2_with fail
        go_ret
        exact ⟨by rw [show rv = true from HV.out]; rfl, Same.trans' K0.out KK.out⟩
      · have f1 : (fl != 1) = true := by simpa using hf
        have f2 : ¬ (fl = 1) := hf
        obtain ⟨o, ho⟩ : ∃ o, r.t.ops[j]? = some o := ⟨_, List.getElem?_eq_getElem (by rw [← show ol = _ from EO.out]; exact hlt)⟩
        have HOM : Hid (o ∈ r.t.ops) := List.mem_of_getElem? ho
        have HMO : Hid (late1 R.all R.clock r.t.f2 o = false → ∀ o' ∈ r.t.ops.take (j + 1), late1 R.all R.clock r.t.f2 o' = false) := fun h9 o' ho' => by
          rw [List.take_add_one, ho] at ho'
          rcases List.mem_append.1 ho' with h8 | h8
          · exact HNO.out hf o' h8
          · simp only [Option.toList_some, List.mem_singleton] at h8
            rw [h8]; exact h9
        obtain ⟨bo, offo, rfl, hbo, p0, p1, -, -⟩ := (OpsAt.on HOP.out (Same.trans' K0.out KK.out)) j o ho
        have hlt1 : late1 R.all R.clock r.t.f2 o = (!(o.kind == 1) && aft R.all (rSee R.all o.key R.clock) r.t.f2) := rfl
        rw [hlt1] at HMO
        have HPF2 : Hid _ := HPF.out o HOM.out
        rw [hlt1] at HPF2
        clear ho hlt1
        cases e1 : (o.kind == 1)
        · have HS1 : Hid _ := HSE.out
          obtain ⟨sv, esv⟩ : ∃ sv, sv = rSee R.all o.key R.clock := ⟨_, rfl⟩
          have HSV : Hid (∀ (W' : World), Kept w W' → Calls Try.prog 73 #[.pointer (some ⟨rb, 0, none⟩), .string o.key, .int .i64 R.clock] W' fun e w' => e = .returned (.int .i64 (ix sv)) ∧ Kept W' w') := fun W' k' => by rw [esv]; exact HSE.out W' o.key k'
          have HIN : Hid (∀ q, sv = some q → q < R.all.length) := fun q hq => (rSee_in (by rw [← esv]; exact hq)).1
          rw [← esv] at HMO HPF2
          rw [e1] at HMO HPF2
          have HBX : Hid (∀ W', Kept wr W' → Kept wr W' ∧ (W'.cell? ⟨rb, 2, none⟩ = some (.int .i64 R.clock) ∧ rb < W'.heap.size) ∧ W'.cell? ⟨g, 7, none⟩ = some (.slice (some ⟨bo, offo, none⟩) ol oc) ∧ W'.cell? ⟨bo, offo + j * 4 + 1, none⟩ = some (.string o.key)) := fun W' k' => by
            obtain ⟨⟨-, n2, -, n4⟩, ⟨-, n7⟩, -⟩ := HC.out W' (Same.trans' KK.out k')
            exact ⟨k', ⟨n2, n4⟩, n7, (k'.cell (p := ⟨bo, _, none⟩) hbo (fun e => e)).trans p1⟩
          clear esv HS1
          go_upto_region 6 with fail
          go_cut [7] (fun s7 wx => s7 = .int .i64 (ix sv) ∧ Kept wr wx)
          case first =>
            go_region_held3 (fun W' => Kept wr W' ∧ (W'.cell? ⟨rb, 2, none⟩ = some (.int .i64 R.clock) ∧ rb < W'.heap.size) ∧ W'.cell? ⟨g, 7, none⟩ = some (.slice (some ⟨bo, offo, none⟩) ol oc) ∧ W'.cell? ⟨bo, offo + j * 4 + 1, none⟩ = some (.string o.key))
              (exact HBX.out _ (by (repeat (first | exact Same.refl _ _ | apply Same.drew | apply Same.drewN | refine Same.trans' ?_ kq)); done))
              ((go_at_call 73; refine Calls.mono (HSV.out _ (Same.trans' (Same.trans' K0.out KK.out) (by (repeat (first | exact Same.refl _ _ | apply Same.drew | apply Same.drewN)); done))) ?_; rintro r2 w2 ⟨rfl, kq⟩))
            all_goals
              go_wp2_with fail
              go_meet
              exact ⟨rfl, (by (repeat (first | exact Same.refl _ _ | apply Same.drew | apply Same.drewN | refine Same.trans' ?_ kq)); done)⟩
          case rest =>
            obtain ⟨rfl, kz⟩ := hcut
            rename World => Z
            have KZ : Hid (Kept W Z) := Same.trans' KK.out kz
            clear kz m1 m2 m3 hrl t2 t7 hg p0 p1 hbo HBX HSV
            obtain ⟨⟨m1, m2, m3, hrl⟩, ⟨t2, t7⟩, hg⟩ := HC.out Z KZ.out
            cases sv with
            | none =>
              have HM2 : Hid _ := HMO.out rfl
              rw [show ix none = (-1 : Int) from rfl]
              go_upto_region 7 with fail
              go_quiet (fail)
              go_wp2_with fail
              go_roundw
              case rel => exact ⟨j + 1, by simp, by omega, Same.drewN KZ.out _, fun _ => HM2.out⟩
              case measure => simp only [intOf]; omega
            | some q =>
              have hq := HIN.out q rfl
              obtain ⟨oq, cq, tq, dq, hRq⟩ := HRU.out q hq
              have kwz := Same.trans' K0.out KZ.out
              have z3 := (hRq.on HB.out kwz).c3
              have hbz : b < Z.heap.size := Nat.lt_of_lt_of_le HB.out kwz.size
              have dq1 : (q : Int) < (L : Int) := by have h8 : L = R.all.length := EL.out; omega
              have dq2 : decide ((0 : Int) ≤ (q : Int)) = true := decide_eq_true (by omega)
              have dq3 : (0 : Int) ≤ (q : Int) := by omega
              rw [show ix (some q) = (q : Int) from rfl]
              rw [show aft R.all (some q) r.t.f2 = decide (r.t.f2 < (gR R.all q).t.f3) from rfl] at HMO HPF2
              clear hq hRq kwz
              generalize (gR R.all q).t.f3 = fq at *
              cases e5 : decide (r.t.f2 < fq)
              · rw [e5] at HMO
                have HM2 : Hid _ := HMO.out rfl
                go_upto_region 7 with fail
                go_quiet (fail)
                go_wp2_with fail
                go_roundw
                case rel => exact ⟨j + 1, by simp, by omega, Same.drewN KZ.out _, fun _ => HM2.out⟩
                case measure => simp only [intOf]; omega
              · rw [e5] at HPF2
                have HV : Hid (rv = false) := HPF2.out rfl hf
                go_upto_region 7 with fail
                go_quiet (fail)
                go_wp2_with fail
                go_ret
                exact ⟨by rw [show rv = false from HV.out]; rfl, Same.trans' K0.out (Same.drewN KZ.out _)⟩
        · rw [e1] at HMO
          have HM2 : Hid _ := HMO.out rfl
          go_wp2_with fail
          go_roundw
          case rel => exact ⟨j + 1, by simp, by omega, KK.out, fun _ => HM2.out⟩
          case measure => simp only [intOf]; omega
    · have c1 : decide ((j : Int) < (ol : Int)) = false := by simp only [decide_eq_false_iff_not]; omega
      have HV : Hid (rv = true) := HPT.out (by
        by_cases hf : fl = 1
        · exact .inl hf
        · refine .inr fun o ho => HNO.out hf o ?_
          rw [List.take_of_length_le (by rw [← show ol = _ from EO.out]; omega)]
          exact ho)
      go_wp2_with fail
      go_ret
      exact ⟨by rw [show rv = true from HV.out]; rfl, Same.trans' K0.out KK.out⟩
end Go.Proofs.Ytbjmdpfoeeadeaa.Ch.Mc
