/- What is proved: Prune: its loop over the keys with several versions, in whatever order they come; the store lies in memory. -/
import Derived.Test.YtnjpbagfbklofaaCPrn
namespace Go.Proofs.Ytnjpbagfbklofaa
open Go.RowKit
open Go.Proofs (encStr)

theorem same_key (k k' : ByteArray) : (kl k').sameKey (kl k) = (k'.toList == k.toList) := by
  rw [ByteArray.toList_eq, ByteArray.toList_eq]
  simp [Lit.sameKey]
/-- What stands while keys are pruned. -/
structure Pg (F : Nat → Prop) (w wr : World) (sb cb lb r : Nat) (A : List En) (t : Int) (left : Lit → Bool) (ct : Nat) (A' : List En) : Prop where
  eq : A' = prL A (fun k => left (kl k)) t
  ex : ∃ D DL, Sc none F wr sb cb lb A.length A' D ∧ wr.ranges Try.prog 9 unitElem lb r (Go.Maps.size DL) DL left ct ∧ Lk A' DL
  same : Same F w wr
theorem Pg.le {F : Nat → Prop} {w wr : World} {sb cb lb r : Nat} {A : List En} {t : Int} {left : Lit → Bool} {ct : Nat} {A' : List En} (h : Pg F w wr sb cb lb r A t left ct A') : A'.length ≤ A.length := by
  rw [h.eq]
  exact prL_length _ _ _
theorem Pg.step {F : Nat → Prop} {w wr w2 w3 : World} {sb cb lb r : Nat} {A : List En} {t : Int} {left : Lit → Bool} {ct ct2 : Nat} {A' : List En} {k : ByteArray} (h : Pg F w wr sb cb lb r A t left ct A') (hg : Good A) (hl : left (kl k) = true) (hlt : ct2 < ct) (hrw : w.heap.size ≤ r) (s2 : Same (fun b => b = r) wr w2) (hp : PkP F w2 sb cb lb r A.length (fun z => left z && !z.sameKey (kl k)) ct2 (pk A' k t) w3) :
    ∃ ct3, ct3 < ct ∧ Pg F w w3 sb cb lb r A t (fun z => left z && !z.sameKey (kl k)) ct3 (pk A' k t) := by
  obtain ⟨⟨D, DL, ct', q1, q2, q3, q4⟩, q5⟩ := hp
  refine ⟨ct', by omega, ?_, ⟨D, DL, q1, q2, q4⟩, ?_⟩
  · rw [h.eq, pk_prL hg (fun k k' e => by rw [kl_eq e]) hl]
    refine prL_congr (fun k' => ?_) t
    rw [same_key]
  · refine Same.trans (Same.trans h.same (S' := fun b => b = r) s2 (fun i hi e => ?_)) q5 (fun i _ hi => hi)
    omega
theorem Pg.good {F : Nat → Prop} {w wr : World} {sb cb lb r : Nat} {A : List En} {t : Int} {left : Lit → Bool} {ct : Nat} {A' : List En} (h : Pg F w wr sb cb lb r A t left ct A') : Good A' := by
  obtain ⟨D, DL, h1, _⟩ := h.ex
  exact h1.good
set_option maxRecDepth 100000 in
set_option maxHeartbeats 3200000 in
theorem prune13 {F : Nat → Prop} {w : World} {sb : Nat} {A : List En} (h : St F w sb A) (t : Int) (hn : A.length ≤ 5277655813324) :
    Calls Try.prog 18 #[.pointer (some ⟨sb, 0, none⟩), .int .i64 t] w fun e w' => e = .returned (.int .i64 ((A.length - (prn A t).length : Nat) : Int)) ∧ St F w' sb (prn A t) ∧ Same F w w' := by
  obtain ⟨cb, lb, D, DL, h, hl, hk⟩ := h
  have hg := h.good
  obtain ⟨⟨-, c1, -⟩, -, hb⟩ := h.cells
  have hFr : ¬ F w.heap.size := fun e => by have := h.lt _ e; omega
  have HST : Hid (∀ w0, w0.ranges Try.prog 9 unitElem lb w.heap.size (Go.Maps.size DL) DL (Go.Maps.has DL) (Go.Maps.size DL) → Kept w w0 → Pg F w w0 sb cb lb w.heap.size A t (Go.Maps.has DL) (Go.Maps.size DL) A) := fun w0 hr k0 =>
    ⟨(prL_start hg (fun k' hk' => by
      refine Classical.byContradiction fun h2 => ?_
      rw [hk.long k' (by omega)] at hk'
      cases hk') t).symm, ⟨D, DL, h.on k0, hr, hk⟩, k0.to F⟩
  have HG : Hid _ := hg
  have HFR : Hid _ := hFr
  clear h hk hg hFr
  obtain ⟨N, eN⟩ : ∃ N, N = A.length := ⟨_, rfl⟩
  have EN : Hid _ := eN
  rw [← eN] at hn ⊢
  clear eN
  go_enter Try.func18, Try.ntmps18
  go_wp2_with (at_range; refine wpList_range_own _ rfl _ 58 rfl 9 73 Try.keyedS Try.underlying58 unitElem lb _ DL rfl hl ?_; intro w0 hrg0 hg0 hs0)
  go_frame
  have P0 : Hid _ := HST.out w0 hrg0 (Same.of_grown hg0 (fun j e => by cases e))
  clear hrg0 hg0 HST hl c1 hs0
  generalize hrr : w.heap.size = r at P0 HFR ⊢
  have HRW : Hid (w.heap.size ≤ r) := Nat.le_of_eq hrr
  clear hrr
  go_loopw [5, 6] (fun s5 _ wr => ∃ (left : Lit → Bool) (ct : Nat) (A' : List En), s5 = .int .i64 ((N - A'.length : Nat) : Int) ∧ Pg F w wr sb cb lb r A t left ct A') (fun _ _ wr => wr.rangeLeft lb r)
  case atStart => exact ⟨_, _, A, by rw [show N = A.length from EN.out, Nat.sub_self]; rfl, P0.out⟩
  case round =>
    obtain ⟨left, ct, A', rfl, pg⟩ := hrel
    have PG : Hid _ := pg
    obtain ⟨D', DL', sc, rg, lk⟩ := pg.ex
    have SC : Hid _ := sc
    have RG : Hid _ := rg
    have LK : Hid _ := lk
    have hle := pg.le
    obtain ⟨z, ez⟩ : ∃ z, z = N - A'.length := ⟨_, rfl⟩
    rw [← ez]
    have EZ : Hid _ := ez
    clear pg sc lk ez
    go_wp2_with (at_next; refine wpList_next_ranges _ rfl _ rfl 9 Try.keyedS unitElem encStr (fun _ : Unit => Value.agg #[]) (fun key kl' hk' => by obtain ⟨x, hx, _⟩ := Maps.keyOf_str Try.underlying9 hk'; exact ⟨x, hx⟩) (fun v y hv => ⟨(), (unitElem_inv hv).1⟩) lb r _ _ _ _ rfl rg ?_ ?_)
    · intro _ hl0
      have eA : A' = prn A t := by
        have e : A' = prL A (fun k => left (kl k)) t := Pg.eq PG.out
        rw [e, prn_prL]
        exact prL_congr (fun k => hl0 _) t
      subst eA
      obtain ⟨⟨-, -, c2⟩, f2, hb2⟩ := Sc.cells SC.out
      rw [← show N = A.length from EN.out] at c2
      have hd : (N : Int) - (z : Int) = ((prn A t).length : Int) := by
        have e : z = N - (prn A t).length := EZ.out
        rw [← show N = A.length from EN.out] at hle
        omega
      have hd2 : IntKind.i64.wrap ((prn A t).length : Int) = ((prn A t).length : Int) := by
        rw [IntKind.wrap_i64]
        have := show N = A.length from EN.out
        omega
      clear hl0 hle rg
      generalize hpl : ((prn A t).length : Int) = pl at *
      go_wp2_with fail
      go_ret
      refine ⟨by rw [← show z = N - _ from EZ.out]; rfl, ⟨cb, lb, D', DL', ?_, ?_, LK.out⟩, Same.setCell (Pg.same PG.out) ⟨sb, 2, none⟩ (.inr (Sc.fs SC.out)) _⟩
      · rw [hpl]
        exact Sc.count SC.out pl
      · refine tight (owns_same (World.ranges.owns RG.out) (Below.heap_setCell _ _ _ _ (fun e => ?_)))
        obtain ⟨es, clock, hm', _⟩ := World.ranges.owns RG.out
        have ho := Sc.obj SC.out
        rw [show sb = lb from e.symm, hm'] at ho
        cases ho
    · intro x kl' yd yp w2 ct2 hkey hlk hv hat hrg2 hlt hg2 hs2 hen
      obtain ⟨x', ex, rfl, hxl⟩ := Maps.keyOf_str Try.underlying9 hkey
      obtain rfl : x = x' := encStr_inj ex
      have s2 : Same (fun b => b = r) wr w2 := Same.of_grown hg2 (fun j e => by cases e; rfl)
      have sc2 := Sc.off SC.out s2 (fun b hb' e => HFR.out (e ▸ hb'))
      have hlen : A'.length ≤ N := by rw [show N = A.length from EN.out]; exact hle
      have HP : Hid _ := pruneKey13 sc2 hrg2 LK.out HFR.out ⟨x.toArray⟩ (by simpa [ByteArray.size] using hxl) (by rw [kl_mk]; simp [Lit.sameKey]) t (by omega)
      have HPL : Hid _ := pk_length (Pg.good PG.out) ⟨x.toArray⟩ t
      have S2 : Hid _ := s2
      have HLK : Hid _ := hlk
      have HLT : Hid _ := hlt
      rw [show Value.string ⟨x.toArray⟩ = encStr x from rfl] at HP
      clear ex hkey hv hat hrg2 hg2 hs2 s2 sc2 hlk hlt rg
      have hzp : (z : Int) + ((cnt (ch A' ⟨x.toArray⟩) t - 1 : Nat) : Int) ≤ 9223372036854775807 := by
        have e1 : z = N - A'.length := EZ.out
        have e2 : (pk A' ⟨x.toArray⟩ t).length + (cnt (ch A' ⟨x.toArray⟩) t - 1) = A'.length := HPL.out
        omega
      generalize hcn : cnt (ch A' ⟨x.toArray⟩) t - 1 = cn at *
      clear hcn
      go_wp2_with fail
      refine Calls.mono HP.out ?_
      rintro e w3 ⟨rfl, pp⟩
      obtain ⟨ct3, h3, pg3⟩ := Pg.step PG.out HG.out (by rw [kl_mk]; exact HLK.out) HLT.out HRW.out S2.out pp
      have P3 : Hid _ := pg3
      have H3 : Hid _ := h3
      clear pp pg3 h3
      go_wp2_with fail
      go_roundw
      case rel =>
        refine ⟨_, ct3, _, ?_, P3.out⟩
        simp only [Value.int.injEq, true_and]
        have e1 : z = N - A'.length := EZ.out
        have e2 : (pk A' ⟨x.toArray⟩ t).length + cn = A'.length := HPL.out
        omega
      case measure =>
        obtain ⟨D3, DL3, -, r3, -⟩ := Pg.ex P3.out
        rw [r3.left_eq, World.ranges.left_eq RG.out]
        exact H3.out
end Go.Proofs.Ytnjpbagfbklofaa
