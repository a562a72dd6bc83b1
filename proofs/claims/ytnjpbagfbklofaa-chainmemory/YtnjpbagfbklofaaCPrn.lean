/- What is proved: Prune leaves of each chain what the document keeps and tells how many went; the store lies in memory. -/
import Derived.Test.YtnjpbagfbklofaaCPrnM
namespace Go.Proofs.Ytnjpbagfbklofaa
open Go.RowKit

theorem strike_none {left : Lit → Bool} {k : ByteArray} (h : left (kl k) = false) : (fun z : Lit => left z && !z.sameKey (kl k)) = left := by
  funext z
  cases e : z.sameKey (kl k)
  · simp
  · rw [WideAt.sameKey_eq e, h]; rfl
/-- What one key's pruning leaves. -/
structure PkP (F : Nat → Prop) (w : World) (sb cb lb r : Nat) (n : Int) (left : Lit → Bool) (ct : Nat) (B : List En) (w' : World) : Prop where
  ex : ∃ D DL ct', Sc none F w' sb cb lb n B D ∧ w'.ranges Try.prog 9 unitElem lb r (Go.Maps.size DL) DL left ct' ∧ ct' ≤ ct ∧ Lk B DL
  same : Same F w w'
theorem ranges_mono {w : World} {lb r n n' : Nat} {DL : DataW Value} {left : Lit → Bool} {ct : Nat} (h : w.ranges Try.prog 9 unitElem lb r n DL left ct) (hn : Go.Maps.size DL ≤ n') : w.ranges Try.prog 9 unitElem lb r n' DL left ct := by
  obtain ⟨es, clock, since, seen, c0, hb, F, hs, rfl, rest⟩ := h
  refine ⟨es, clock, since, seen, c0, hb, F, ?_, rfl, rest⟩
  simpa [Go.Maps.size, length_sorted] using hn
theorem ranges_same {S : Nat → Prop} {w w' : World} {lb r n : Nat} {DL : DataW Value} {left : Lit → Bool} {ct : Nat} (h : w.ranges Try.prog 9 unitElem lb r n DL left ct) (hs : Same S w w') (h1 : ¬ S lb) (h2 : ¬ S r) : w'.ranges Try.prog 9 unitElem lb r n DL left ct := by
  have l1 := h.owns.lt
  have l2 := h.lt
  obtain ⟨es, clock, since, seen, c0, hb, F, hs', hD, hr, rest⟩ := h
  exact ⟨es, clock, since, seen, c0, (hs.block lb l1 h1).trans hb, F, hs', hD, (hs.block r l2 h2).trans hr, rest⟩
/-- The list of the keys with several versions turns: the chains stay. -/
theorem Sc.long {F : Nat → Prop} {w w' : World} {sb cb lb : Nat} {n : Int} {A : List En} {D : DataW Value} (h : Sc none F w sb cb lb n A D) {es : Array MapEntry} {clock : Nat} (hm : w.heap[lb]? = some (.map es clock)) (hs : Same (fun b => b = lb) w w') : Sc none F w' sb cb lb n A D :=
  h.kept hs (fun e => by have := h.obj; rw [e, hm] at this; cases this) h.ne fun k v b hk hv hb e => by
    rcases h.at_ k hk with ⟨_, hh⟩ | ⟨_, v2, h2, h3, _⟩
    · rw [Go.Maps.has_true_of_atKey hv] at hh; cases hh
    · have e' := (hv .nil).symm.trans (h2 .nil)
      simp only [DataW.held.injEq] at e'
      subst e'
      obtain ⟨_, cur, hc⟩ := OwnV.block h3 hb
      rw [e, hm] at hc
      cases hc
set_option maxRecDepth 100000 in
set_option maxHeartbeats 3200000 in
theorem pruneKey13 {F : Nat → Prop} {w : World} {sb cb lb r nn : Nat} {n : Int} {A : List En} {D DL : DataW Value} {left : Lit → Bool} {ct : Nat} (h : Sc none F w sb cb lb n A D) (hr : w.ranges Try.prog 9 unitElem lb r nn DL left ct) (hlk : Lk A DL) (hFr : ¬ F r) (k : ByteArray) (hk : k.size ≤ maxLen) (hleft : left (kl k) = false) (t : Int) (hn : A.length ≤ 5277655813324) :
    Calls Try.prog 30 #[.pointer (some ⟨sb, 0, none⟩), .string k, .int .i64 t] w fun e w' => e = .returned (.int .i64 ((cnt (ch A k) t - 1 : Nat) : Int)) ∧ PkP F w sb cb lb r n left ct (pk A k t) w' := by
  have hg := h.good
  have hA := hg k
  have hch := ch_length_le A k
  have hcl := cnt_le (ch A k) t
  obtain ⟨⟨c0, -⟩, -, hb⟩ := h.cells
  obtain ⟨v, hrun, ho, hfv, hat, -⟩ := h.look hk (by simp)
  obtain ⟨a, cap, ev, hv, -⟩ := OwnV.vers ho
  have HC : Hid _ := committed_any a (ch A k) cap t w hv hA (by omega)
  rw [← ev] at HC
  have HNO : Hid (∀ w', Kept w w' → cnt (ch A k) t - 1 = 0 → PkP F w sb cb lb r n left ct (pk A k t) w') := fun w' k' hz => by
    rw [pk_noop hg hz]
    exact ⟨⟨D, DL, ct, h.on k', ranges_mono (ranges_same hr k' (fun e => e) (fun e => e)) (Nat.le_refl _), Nat.le_refl _, hlk⟩, k'.to F⟩
  subst ev
  by_cases h1 : cnt (ch A k) t - 1 = 0
  · rw [h1]
    have HZ : Hid _ := h1
    generalize ch A k = l at *
    have hl2 : (l.length : Int) ≤ 9223372036854775807 := by omega
    rcases (by omega : cnt l t = 0 ∨ cnt l t = 1) with h0 | h0
    · rw [h0] at HC
      clear h1 h0 hv ho hfv hat hA hcl hch h hr
      go_enter Try.func30, Try.ntmps30
      go_wp2_with fail
      refine Calls.mono HC.out ?_
      rintro e w1 ⟨rfl, k1⟩
      have K1 : Hid _ := k1
      clear k1
      go_wp2_with fail
      go_ret
      exact ⟨rfl, HNO.out _ K1.out HZ.out⟩
    · rw [h0] at HC
      clear h1 h0 hv ho hfv hat hA hcl hch h hr
      go_enter Try.func30, Try.ntmps30
      go_wp2_with fail
      refine Calls.mono HC.out ?_
      rintro e w1 ⟨rfl, k1⟩
      have K1 : Hid _ := k1
      clear k1
      go_wp2_with fail
      go_ret
      exact ⟨rfl, HNO.out _ K1.out HZ.out⟩
  · obtain ⟨m, hm⟩ : ∃ m, cnt (ch A k) t = m + 1 := ⟨cnt (ch A k) t - 1, by omega⟩
    have hne : ch A k ≠ [] := fun e => by rw [e] at hm; cases hm
    have hpk := pk_same hg k t
    have hpn := pk_ne hg (k := k) t hne
    rw [hm, Nat.add_sub_cancel] at hpk ⊢
    rw [hm, Int.natCast_add] at HC
    have hm0 : 0 < m := by omega
    have hml : m < (ch A k).length := by omega
    obtain ⟨g, cap', ev, rv⟩ := Rv4.of ho hne
    cases ev
    have HD : Hid (∀ W, Kept w W → _) := fun W k' => delete13 (rv.on k') hm0 hml
    rw [← hpk] at HD
    have hgF : F g := hfv g rfl
    have hgs : g ≠ sb ∧ g ≠ cb ∧ g ≠ lb := by
      obtain ⟨⟨cur, hc, -⟩, -, -⟩ := rv
      refine ⟨fun e => ?_, fun e => ?_, fun e => ?_⟩
      · rw [e, h.obj] at hc; cases hc
      · obtain ⟨es, clock, hm', _⟩ := h.own
        rw [e, hm'] at hc; cases hc
      · obtain ⟨es, clock, hm', _⟩ := hr.owns
        rw [e, hm'] at hc; cases hc
    have hap : ∀ (k' : ByteArray) v' b', some k.toList ≠ some k'.toList → (∀ zd, D.atKey (kl k') zd = .held v') → v'.ownBlock = some b' → b' ≠ g := fun k' v' b' hne' hv' hb' e => by
      refine h.apart k k' _ v' b' (by simp) (by simp) (fun e' => hne' (by rw [e'])) (hat hne) hv' ?_ hb'
      rw [e]; rfl
    have hsl := h.size_le
    have HUP : Hid (∀ w2, Same (fun b => b = g) w w2 → Rv4 w2 g cap (ch (pk A k t) k) → ∃ w3, (Instr.mapUpdate 57 (.map (some cb)) (.string k) (.slice (some ⟨g, 0, none⟩) (ch (pk A k t) k).length cap)).run Try.prog w2 = .ok () w3 ∧ (∃ D', Sc none F w3 sb cb lb n (pk A k t) D') ∧ (w3.cell? ⟨sb, 1, none⟩ = some (.map (some lb)) ∧ sb < w3.heap.size) ∧ w3.ranges Try.prog 9 unitElem lb r (Go.Maps.size DL) DL left ct ∧ Same F w w3) := fun w2 s2 rv2 => by
      have hsc2 : Sc (some k.toList) F w2 sb cb lb n A D := (h.but k).kept s2 (fun e => hgs.1 e.symm) (fun e => hgs.2.1 e.symm) hap
      obtain ⟨w3, q0, q1, q2, q3⟩ := hsc2.put (A' := pk A k t) (F' := F) hk (by unfold maxLen; omega) (hg.pk k t) (fun k' hk' => pk_other hk' t) hpn rv2.own (fun _ hb => hb) (fun b' hb' => by simp only [Value.ownBlock, Option.some.injEq] at hb'; rw [← hb']; exact hgF) hsc2.lt
        (fun k' v' g' hne' hv' hb' hb2 => by
          simp only [Value.ownBlock, Option.some.injEq] at hb'
          exact hap k' v' g' (fun e => hne' (Option.some.inj e).symm) hv' hb2 hb'.symm)
      obtain ⟨⟨-, c1', -⟩, -, hb'⟩ := q1.cells
      refine ⟨w3, q0, ⟨_, q1⟩, ⟨c1', hb'⟩, ?_, (s2.mono (fun i _ hi => by rw [hi]; exact hgF)).trans q2 (fun i _ hi => by rw [hi]; exact h.fc)⟩
      have hr2 := ranges_same hr s2 (fun e => hgs.2.2 e.symm) (fun e => hFr (by rw [e]; exact hgF))
      exact ranges_mono (ranges_same hr2 q2 (fun e => h.ne e.symm) (fun e => hFr (by rw [e]; exact h.fc))) (Nat.le_refl _)
    have HLK : Hid _ := hlk.pk hg k t
    have HFL : Hid _ := h.fl
    have HGS : Hid (sb ≠ g) := fun e => hgs.1 e.symm
    have HKL : Hid _ := hk
    have HLF : Hid _ := hleft
    have hlen : (ch (pk A k t) k).length ≤ (ch A k).length := by rw [hpk, List.length_drop]; omega
    generalize hQ : ch (pk A k t) k = Q at *
    have HQ : Hid _ := hQ
    have hq : 0 < Q.length := List.length_pos_iff.2 hpn
    obtain ⟨q, eq⟩ : ∃ q, q = Q.length := ⟨_, rfl⟩
    rw [← eq] at HD HUP hq hlen
    obtain ⟨N, eN⟩ : ∃ N, N = (ch A k).length := ⟨_, rfl⟩
    rw [← eN] at HD HC hrun hlen hch
    have EQ : Hid _ := eq
    have d1 : ¬ ((m : Int) < 1) := by omega
    have d2 : decide ((m : Int) < 1) = false := decide_eq_false d1
    have d3 : (m : Int) ≤ 9223372036854775807 := by omega
    clear hleft hgs hap hsl h hr hat hfv hFr ho hv rv hne hpk hpn hm hml hm0 h1 hcl hA hg HNO hQ eq eN hgF
    go_enter Try.func30, Try.ntmps30
    go_wp2_with fail
    refine Calls.mono HC.out ?_
    rintro e w1 ⟨rfl, k1⟩
    have K1 : Hid _ := k1
    have HD1 : Hid _ := HD.out w1 k1
    clear k1 HD HC
    go_wp2_with fail
    refine Calls.mono HD1.out ?_
    rintro e w2 ⟨rfl, rv2, s2⟩
    have s02 : Same (fun b => b = g) w w2 := Same.trans' (Same.mono K1.out (fun _ _ f => f.elim)) s2
    have hc2 : w2.cell? ⟨sb, 0, none⟩ = some (.map (some cb)) := (s02.cell (p := ⟨sb, 0, none⟩) hb HGS.out).trans c0
    have hb2 : sb < w2.heap.size := Nat.lt_of_lt_of_le hb s02.size
    obtain ⟨w3, hup, hsc3, ⟨c13, hb3⟩, hr3, s3⟩ := HUP.out w2 s02 rv2
    have SC3 : Hid _ := hsc3
    have HR3 : Hid _ := hr3
    have S3 : Hid _ := s3
    clear s02 s2 rv2 hsc3 s3 HUP HD1
    by_cases hq1 : q = 1
    · have e1 : ((q : Int) == 1) = true := by rw [hq1]; rfl
      have HQ1 : Hid _ := hq1
      clear hq1 hq hlen
      go_wp2_with (at_delete; refine wpList_delete_ranges _ rfl _ _ 58 9 rfl 73 Try.keyedS Try.underlying58 unitElem lb r _ DL left ct rfl hr3 _ _ rfl (key_of HKL.out) ?_; intro w4 ct4 hr4 hle4 ht4)
      go_ret
      rw [strike_none HLF.out] at hr4
      have s4 := same_turned ht4
      obtain ⟨D', sc3⟩ := SC3.out
      obtain ⟨es, clock, hm', _⟩ := World.ranges.owns HR3.out
      refine ⟨rfl, ⟨D', DL.del (kl k), ct4, Sc.long sc3 hm' s4, ranges_mono hr4 (Nat.le_refl _), hle4, Lk.del HLK.out (by rw [show ch (pk A k t) k = Q from HQ.out, ← show q = Q.length from EQ.out]; exact HQ1.out)⟩, Same.trans S3.out s4 (fun i _ hi => by rw [hi]; exact HFL.out)⟩
    · have e1 : ((q : Int) == 1) = false := by simp; omega
      have e2 : ¬ ((q : Int) = 1) := by omega
      clear hq hlen hr3
      go_wp2_with fail
      go_ret
      obtain ⟨D', sc3⟩ := SC3.out
      exact ⟨rfl, ⟨D', DL, ct, sc3, HR3.out, Nat.le_refl _, HLK.out⟩, S3.out⟩
end Go.Proofs.Ytnjpbagfbklofaa
