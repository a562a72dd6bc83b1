/- What is proved: the document's dirty answers as the plain one does; its machine lies in memory. -/
import Derived.Test.YtmghmacgljihcaaKRo
namespace Go.Proofs.Ytmghmacgljihcaa
open Go.RowKit

set_option maxRecDepth 100000 in
set_option maxHeartbeats 3200000 in
theorem rdirty15 {w : World} {rb n : Nat} {fl : Int} {R : Rr} {a : Option Addr} {cap : Nat} {ev : Value} (h : Rd w rb n fl R a cap ev) (hs : Sml R) (i : Nat) (k : ByteArray) :
    Calls Try.prog 46 #[.pointer (some ⟨rb, 0, none⟩), .int .i64 (i : Int), .string k] w fun e w' => e = .returned (.int .i64 (ix (rDirt R.all i k R.all.length).1)) ∧ Kept w w' := by
  have HH : Hid (Rd w rb n fl R a cap ev) := h
  have hn := hs.n
  have HS : Hid (Sml R) := hs
  obtain ⟨L, eL⟩ : ∃ L, L = R.all.length := ⟨_, rfl⟩
  rw [← eL] at hn ⊢
  have EL : Hid (L = R.all.length) := eL
  clear h eL hs
  generalize hso : (rDirt R.all i k L).1 = fo
  have HFO : Hid ((rDirt R.all i k L).1 = fo) := hso
  clear hso
  go_enter Try.func46, Try.ntmps46
  go_wp2_with fail
  go_loopw [7, 8, 9] (fun s7 s8 s9 wr => ∃ j : Nat, s9 = .int .i64 j ∧ s7 = .int .i64 (ix (rDirt R.all i k j).1) ∧ s8 = .int .i64 (rDirt R.all i k j).2 ∧ j ≤ L ∧ Kept w wr) (fun _ _ s9 _ => L - (intOf s9).toNat)
  case atStart => exact ⟨0, rfl, rfl, rfl, Nat.zero_le _, Same.refl _ _⟩
  case round =>
    obtain ⟨j, rfl, rfl, rfl, hj, kk⟩ := hrel
    have KK : Hid (Kept w wr) := kk
    have hrd := HH.out.on kk
    have HRD : Hid (Rd wr rb n fl R a cap ev) := hrd
    have y3 := hrd.c3
    have hrl := hrd.lt
    rw [← show L = _ from EL.out] at y3
    clear kk hrd
    by_cases hlt : j < L
    · have c1 : decide ((j : Int) < (L : Int)) = true := by simp only [decide_eq_true_eq]; omega
      have hlt2 : (j : Int) < (L : Int) := by omega
      have hlt3 : (0 : Int) ≤ (j : Int) := by omega
      obtain ⟨r, hr⟩ : ∃ r, R.all[j]? = some r := ⟨_, List.getElem?_eq_getElem (by rw [← show L = _ from EL.out]; exact hlt)⟩
      have hgr : gR R.all j = r := gR_of hr
      obtain ⟨hol, hts⟩ := HS.out.o r (List.mem_of_getElem? hr)
      obtain ⟨b, off, oa, oc, ta, tc, rfl, hb, hR⟩ := HRD.out.run j r hr
      have HRR : Hid (Run wr b off j r oa oc ta tc) := hR
      obtain ⟨so, wo, eso⟩ : ∃ so wo, (so, wo) = rDirt R.all i k j := ⟨_, _, rfl⟩
      have HNX : Hid (rDirt R.all i k (j + 1) = match lastW r.t.ops k with
          | none => (so, wo)
          | some o => if j ≠ i ∧ r.st = 0 ∧ wo < r.ts.getD o 0 then (some j, r.ts.getD o 0) else (so, wo)) := by
        show rDirt R.all i k (j + 1) = _
        rw [rDirt, hgr, ← eso]
        cases lastW r.t.ops k <;> rfl
      rw [← eso]
      simp only
      have HLF : Hid (∀ W', Kept wr W' → Calls Try.prog 39 #[txA r.t (.slice oa r.t.ops.length oc), .string k] W' fun e w' => e = .returned (.int .i64 (ix (lastW r.t.ops k))) ∧ Kept W' w') := fun W' k' => rleft15 W' r.t oa oc (HRR.out.ops.on k') (by omega) k
      have HLL : Hid (∀ p, lastW r.t.ops k = some p → p < r.ts.length) := fun p hp => by rw [hts]; exact lastW_lt hp
      obtain ⟨ol, eol⟩ : ∃ ol, ol = r.t.ops.length := ⟨_, rfl⟩
      obtain ⟨tl, etl⟩ : ∃ tl, tl = r.ts.length := ⟨_, rfl⟩
      have q0 := hR.c0
      have q1 := hR.c1
      have q2 := hR.c2
      have q3 := hR.c3
      have q4 := hR.c4
      have q5 := hR.c5
      have q6 := hR.c6
      have q7 := hR.c7
      rw [← eol] at q7 HLF hol
      rw [← etl] at HLL
      have ETL : Hid (tl = r.ts.length) := etl
      clear hr hgr hR eso hts eol etl
      generalize hlo : lastW r.t.ops k = lo at *
      clear hlo
      go_wp2_with fail
      refine Calls.mono (HLF.out wr (Same.refl _ _)) ?_
      rintro r2 w2 ⟨rfl, k2⟩
      have KZ : Hid (Kept w w2) := Same.trans' KK.out k2
      have hrd2 := HRD.out.on k2
      clear y3 hrl q0 q1 q2 q3 q4 q5 q6 q7 HLF
      have y3 := hrd2.c3
      rw [← show L = _ from EL.out] at y3
      have hrl := hrd2.lt
      have hR2 := HRR.out.on hb k2
      have hb2 : b < w2.heap.size := Nat.lt_of_lt_of_le hb k2.size
      have q8 := hR2.c8
      have q9 := hR2.c9
      rw [← show tl = r.ts.length from ETL.out] at q9
      have HTS : Hid (IntsAt w2 ta r.ts) := hR2.ts
      clear hrd2 hR2 k2 hb HRR
      have HIJ : Hid (j = i → ((j : Int) != (i : Int)) = false) := fun e => by rw [e]; simp
      have HIK : Hid (j ≠ i → ((j : Int) != (i : Int)) = true) := fun e => by simp; omega
      by_cases hji : j = i
      · have e1 := HIJ.out hji
        have HN2 : Hid (rDirt R.all i k (j + 1) = (so, wo)) := (show rDirt R.all i k (j + 1) = _ from HNX.out).trans (by cases lo with | none => rfl | some o => exact if_neg (fun h9 => h9.1 hji))
        clear hji HNX
        go_wp2_with fail
        go_roundw
        case rel => exact ⟨j + 1, by simp, by rw [show rDirt R.all i k (j + 1) = _ from HN2.out], by rw [show rDirt R.all i k (j + 1) = _ from HN2.out], by omega, KZ.out⟩
        case measure => simp only [intOf]; omega
      · have e1 := HIK.out hji
        cases e2 : (r.st == 0)
        · have hst : r.st ≠ 0 := by simpa using e2
          have HN2 : Hid (rDirt R.all i k (j + 1) = (so, wo)) := (show rDirt R.all i k (j + 1) = _ from HNX.out).trans (by cases lo with | none => rfl | some o => exact if_neg (fun h9 => hst h9.2.1))
          clear hji HNX hst
          go_wp2_with fail
          go_roundw
          case rel => exact ⟨j + 1, by simp, by rw [show rDirt R.all i k (j + 1) = _ from HN2.out], by rw [show rDirt R.all i k (j + 1) = _ from HN2.out], by omega, KZ.out⟩
          case measure => simp only [intOf]; omega
        · have hst : r.st = 0 := by simpa using e2
          cases lo with
          | none =>
            have HN2 : Hid (rDirt R.all i k (j + 1) = (so, wo)) := HNX.out
            rw [show ix none = (-1 : Int) from rfl]
            clear hji HNX hst
            go_wp2_with fail
            go_roundw
            case rel => exact ⟨j + 1, by simp, by rw [show rDirt R.all i k (j + 1) = _ from HN2.out], by rw [show rDirt R.all i k (j + 1) = _ from HN2.out], by omega, KZ.out⟩
            case measure => simp only [intOf]; omega
          | some p =>
            have hpl := HLL.out p rfl
            obtain ⟨x, hx⟩ : ∃ x, r.ts[p]? = some x := ⟨_, List.getElem?_eq_getElem (by rw [← show tl = r.ts.length from ETL.out]; exact hpl)⟩
            have hgx : r.ts.getD p 0 = x := by rw [List.getD_eq_getElem?_getD, hx]; rfl
            obtain ⟨b3, off3, rfl, hb3, z0'⟩ := HTS.out p x hx
            have d1 : (0 : Int) ≤ (p : Int) := by omega
            have d2 : decide ((0 : Int) ≤ (p : Int)) = true := decide_eq_true d1
            have d3 : (p : Int) < (tl : Int) := by omega
            rw [show ix (some p) = (p : Int) from rfl]
            by_cases hw : wo < x
            · have e3 : decide (wo < x) = true := decide_eq_true hw
              have HN2 : Hid (rDirt R.all i k (j + 1) = (some j, x)) := (show rDirt R.all i k (j + 1) = _ from HNX.out).trans (by simp only; rw [hgx]; exact if_pos ⟨hji, hst, hw⟩)
              clear hji HNX hst hx hgx
              go_wp2_with fail
              go_roundw
              case rel => exact ⟨j + 1, by simp, by rw [show rDirt R.all i k (j + 1) = _ from HN2.out]; rfl, by rw [show rDirt R.all i k (j + 1) = _ from HN2.out], by omega, KZ.out⟩
              case measure => simp only [intOf]; omega
            · have e3 : decide (wo < x) = false := decide_eq_false hw
              have HN2 : Hid (rDirt R.all i k (j + 1) = (so, wo)) := (show rDirt R.all i k (j + 1) = _ from HNX.out).trans (by simp only; rw [hgx]; exact if_neg (fun h9 => hw h9.2.2))
              clear hji HNX hst hx hgx
              go_wp2_with fail
              go_roundw
              case rel => exact ⟨j + 1, by simp, by rw [show rDirt R.all i k (j + 1) = _ from HN2.out], by rw [show rDirt R.all i k (j + 1) = _ from HN2.out], by omega, KZ.out⟩
              case measure => simp only [intOf]; omega
    · have c1 : decide ((j : Int) < (L : Int)) = false := by simp only [decide_eq_false_iff_not]; omega
      obtain rfl : L = j := by omega
      rw [show (rDirt R.all i k L).1 = fo from HFO.out]
      go_wp2_with fail
      go_ret
      exact ⟨rfl, KK.out⟩
end Go.Proofs.Ytmghmacgljihcaa
