/- What is proved: the law's helpers sameHoles, tells and step answer true where the space and the document's have the same holes, and leave them so. -/
import Derived.Test.YtfllilgadphlcaaERefC
import Derived.Test.YtfllilgadphlcaaEHolesL
namespace Go.Proofs.Ytfllilgadphlcaa
open Go.RowKit

set_option maxRecDepth 100000 in
set_option maxHeartbeats 1600000 in
theorem same_any {w : World} {a b : Option Addr} {L : List Ex} {ca cb : Nat} (ha : ExtsAt w a L) (hb : ExtsAt w b L) (hn : L.length ≤ 4096) : Calls Try.prog 25 #[.slice a L.length ca, .slice b L.length cb] w fun e w' => e = .returned (.bool true) ∧ Kept w w' := by
  have HA : Hid _ := ha
  have HB : Hid _ := hb
  obtain ⟨n, en⟩ : ∃ n, n = L.length := ⟨_, rfl⟩
  rw [← en] at hn ⊢
  have EN : Hid _ := en
  clear ha hb en
  go_enter Try.func25, Try.ntmps25
  go_wp2_with fail
  go_loopw [14] (fun i wr => ∃ j : Nat, j ≤ n ∧ i = .int .i64 j ∧ Kept w wr) (fun i _ => n - (intOf i).toNat)
  case atStart => exact ⟨0, Nat.zero_le _, rfl, Same.refl _ _⟩
  case round =>
    obtain ⟨j, hj, rfl, kk⟩ := hrel
    have KK : Hid _ := kk
    by_cases hlt : j < n
    · have c1' : decide ((j : Int) < (n : Int)) = true := by simp only [decide_eq_true_eq]; omega
      have hlt2 : (j : Int) < (n : Int) := by omega
      obtain ⟨e, he⟩ : ∃ e, L[j]? = some e := ⟨_, List.getElem?_eq_getElem (by rw [← EN.out]; exact hlt)⟩
      obtain ⟨b1, o1, rfl, hb1, q0, q1⟩ := (ExtsAt.kept HA.out kk (fun _ _ h => h)) j e he
      obtain ⟨b2, o2, rfl, hb2, r0, r1⟩ := (ExtsAt.kept HB.out kk (fun _ _ h => h)) j e he
      clear kk he
      go_wp2_with fail
      go_quiet (fail)
      go_wp2_with fail
      go_roundw
      case rel => exact ⟨j + 1, by omega, by simp, (KK.out.alloc _).drewN _⟩
      case measure => simp only [intOf]; omega
    · have c1' : decide ((j : Int) < (n : Int)) = false := by simp only [decide_eq_false_iff_not]; omega
      clear kk
      go_wp2_with fail
      go_ret
      exact ⟨rfl, KK.out⟩

/-- The space and the document's beside one another, with the same holes. -/
structure Both (X : Nat → Prop) (w : World) (p q g N : Nat) (L : List Ex) (U : Nat → Bool) : Prop where
  sp : SpX (fun k => X k ∨ k = q ∨ k = g) w p N L
  rs : RS w q g N U
  nq : ¬ X q
  ng : ¬ X g
  ag : Ag U N L
theorem Both.on {X : Nat → Prop} {w w' : World} {p q g N : Nat} {L : List Ex} {U : Nat → Bool} (h : Both X w p q g N L U) (k : Kept w w') : Both X w' p q g N L U :=
  ⟨h.sp.on k, h.rs.on k, h.nq, h.ng, h.ag⟩
theorem Both.lt {X : Nat → Prop} {w : World} {p q g N : Nat} {L : List Ex} {U : Nat → Bool} (h : Both X w p q g N L U) (hX : ∀ k, X k → k < w.heap.size) : ∀ k, (X k ∨ k = q ∨ k = g) → k < w.heap.size := fun k hk => by
  rcases hk with hk | rfl | rfl
  · exact hX k hk
  · exact lt_of_heap h.rs.obj
  · exact h.rs.row.lt

set_option maxRecDepth 100000 in
set_option maxHeartbeats 1600000 in
theorem tells_any {X : Nat → Prop} {w : World} {p q g N : Nat} {L : List Ex} {U : Nat → Bool} (h : Both X w p q g N L U) : Calls Try.prog 13 #[.pointer (some ⟨p, 0, none⟩), .pointer (some ⟨q, 0, none⟩)] w fun e w' => e = .returned (.bool true) ∧ Kept w w' := by
  have hN := h.sp.small
  have HL : Hid (∀ W, Kept w W → _) := fun W (k : Kept w W) => left_x (h.sp.on k)
  have HRL : Hid (∀ W, Kept w W → _) := fun W (k : Kept w W) => rleft_any (h.rs.on k) hN
  have HG : Hid (∀ W, Kept w W → _) := fun W (k : Kept w W) => largest_x (h.sp.on k)
  have HRG : Hid (∀ W, Kept w W → _) := fun W (k : Kept w W) => rlargest_any (h.rs.on k) hN h.sp.wf h.ag
  have HH : Hid (∀ W, Kept w W → _) := fun W (k : Kept w W) => holes_x (h.sp.on k)
  have HRH : Hid (∀ W, Kept w W → _) := fun W (k : Kept w W) => rholes_any (h.rs.on k) hN h.sp.wf h.ag
  rw [fr_sum h.ag h.sp.wf] at HRL
  have HLN : Hid _ := h.sp.wf.len hN
  clear h
  obtain ⟨S, eS⟩ : ∃ S, S = sum L := ⟨_, rfl⟩
  obtain ⟨B, eB⟩ : ∃ B, B = big L := ⟨_, rfl⟩
  rw [← eS] at HL HRL
  rw [← eB] at HG HRG
  clear eS eB
  go_enter Try.func13, Try.ntmps13
  go_wp2_with fail
  refine Calls.mono (HL.out _ (Same.refl _ _)) ?_
  rintro e w1 ⟨rfl, k1⟩
  go_wp2_with fail
  refine Calls.mono (HRL.out _ k1) ?_
  rintro e w2 ⟨rfl, k2⟩
  have k02 := k1.trans' k2
  go_wp2_with fail
  refine Calls.mono (HG.out _ k02) ?_
  rintro e w3 ⟨rfl, k3⟩
  have k03 := k02.trans' k3
  go_wp2_with fail
  refine Calls.mono (HRG.out _ k03) ?_
  rintro e w4 ⟨rfl, k4⟩
  have k04 := k03.trans' k4
  go_wp2_with fail
  refine Calls.mono (HH.out _ k04) ?_
  rintro e w5 ⟨v, rfl, hv⟩
  obtain ⟨ga, gc, rfl, hE, -, k5⟩ := hv.exts
  have k05 := k04.trans' k5
  have HE : Hid _ := hE
  clear hv hE
  go_wp2_with fail
  refine Calls.mono (HRH.out _ k05) ?_
  rintro e w6 ⟨ra, rc, rfl, hE2, -, k6⟩
  have k06 := k05.trans' k6
  have HS : Hid _ := same_any (ca := gc) (cb := rc) (ExtsAt.kept HE.out k6 (fun _ _ h => h)) hE2 HLN.out
  clear hE2
  go_wp2_with fail
  refine Calls.mono HS.out ?_
  rintro e w7 ⟨rfl, k7⟩
  go_wp2_with fail
  go_ret
  exact ⟨rfl, k06.trans' k7⟩
end Go.Proofs.Ytfllilgadphlcaa
