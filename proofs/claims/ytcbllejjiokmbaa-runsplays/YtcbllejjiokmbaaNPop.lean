/- What is proved: taking the first place out of the heap answers it and keeps a heap of the others; the places lie in the list. -/
import Derived.Test.YtcbllejjiokmbaaNPush
namespace Go.Proofs.Ytcbllejjiokmbaa
open Go.RowKit

theorem Lst.hp {lt : Nat → Nat → Bool} {L : List Nat} {a : Nat} (h : Lst lt L a a) (d : Dn lt L a) : Hp lt L := by
  rcases h with ⟨-, h⟩ | ⟨h, -⟩
  · exact d.done h
  · exact absurd rfl h
theorem Lst.dn {lt : Nat → Nat → Bool} (o : SWO lt) {L : List Nat} {a c : Nat} (h : Lst lt L a c) (hne : a ≠ c) (d : Dn lt L a) : Dn lt (swp L a c) c ∧ a < c ∧ c < L.length := by
  rcases h with ⟨h, -⟩ | ⟨-, h0, h1, h2, h3, h4⟩
  · exact absurd h.symm hne
  · exact ⟨d.step o h0 h1 h2 h3 h4, by omega, h1⟩
theorem Hm.low {B : Nat} {w : World} {ob lb : Nat} {v : Value} {L : List Nat} (h : Hm B w ob lb v L) {i : Nat} (hi : i = B ∨ v.ownBlock = some i) : B ≤ i := by
  rcases hi with hi | hi
  · omega
  · have := (h.own.block hi).1
    omega
set_option maxRecDepth 100000 in
set_option maxHeartbeats 1600000 in
theorem pop10 {B : Nat} {w : World} {ob lb : Nat} {order : Int} {oa : Option Addr} {cap : Nat} {l : List RwM} (E : Env B w ob lb order oa cap l) {v : Value} {L : List Nat} (h : Hm B w ob lb v L) (hp : Hp (plt (bef order) l) L) (hL : Pl l.length L) (hn : L.length ≤ 2199023255552) (h0 : 0 < L.length) :
    Calls Try.prog 64 #[.pointer (some ⟨B, 0, none⟩)] w fun e w' => e = .returned (.int .i64 ((L.getD 0 0 : Nat) : Int)) ∧ ∃ v' L', Hm B w' ob lb v' L' ∧ Hp (plt (bef order) l) L' ∧ (L.getD 0 0 :: L').Perm L ∧ v'.ownBlock = v.ownBlock ∧ Same (fun k => k = B ∨ v.ownBlock = some k) w w' := by
  have O : Hid _ := plt_swo (bef_swo order) l
  have HLS : Hid (∀ W v' L', Same (fun k => k = B ∨ v.ownBlock = some k) w W → Hm B W ob lb v' L' → L'.Perm (cut0 L) → ∀ a : Nat, a ≤ L'.length → _) := fun W v' L' k hm hpm a ha => least10 (E.on (k.mono fun i _ hi => h.low hi)) hm (fun k hk => Pl.at (L := L') (fun y hy => hL y ((cut0_perm h0).mem_iff.1 (List.mem_cons_of_mem _ (hpm.mem_iff.1 hy)))) hk) (by rw [hpm.length_eq, cut0_len]; omega) ha
  obtain ⟨lt, elt⟩ : ∃ lt, lt = plt (bef order) l := ⟨_, rfl⟩
  rw [← elt] at O hp HLS ⊢
  clear elt
  have hD : Hid _ := Dn.start hp
  have hPM : Hid _ := cut0_perm h0
  obtain ⟨g, cp, rfl, hg, hcp⟩ := h.own.shape h0
  obtain ⟨m, em⟩ : ∃ m, L.length = m + 1 := ⟨L.length - 1, by omega⟩
  obtain ⟨c0, -, f0, hB⟩ := h.cells
  obtain ⟨i0, j0, hgl⟩ := h.own.at (i := 0) h0
  obtain ⟨im, jm, -⟩ := h.own.at (i := m) (by omega)
  rw [em] at c0 hcp hn
  have ecut : cut0 L = (L.set 0 (L.getD m 0)).take m := by unfold cut0; rw [em, Nat.add_sub_cancel]
  have hcl : Hid ((cut0 L).length = m) := by show _ = _; rw [cut0_len, em, Nat.add_sub_cancel]
  have k1 : Same (fun k => some g = some k) w (w.setCell ⟨g, 0, none⟩ (.int .i64 ((L.getD m 0 : Nat) : Int))) := (Same.refl (fun k => some g = some k) w).setCell ⟨g, 0, none⟩ (.inr rfl) _
  have HM : Hid _ := h.put' k1 (v' := .slice (some ⟨g, 0, none⟩) m cp) (L' := cut0 L) (by rw [ecut]; exact (h.own.set 0 _).cut (by rw [List.length_set, em]; omega))
  have q0 : (w.setCell ⟨g, 0, none⟩ (.int .i64 ((L.getD m 0 : Nat) : Int))).cell? ⟨B, 0, none⟩ = some (.slice (some ⟨g, 0, none⟩) (m + 1) cp) := (k1.cell (p := ⟨B, 0, none⟩) hB (fun e => by have := Option.some.inj e; simp only at this; omega)).trans c0
  have q1 : (w.setCell ⟨g, 0, none⟩ (.int .i64 ((L.getD m 0 : Nat) : Int))).frozen? ⟨B, 0, none⟩ = false := frozen_of ((k1.block B hB (fun e => by cases e; omega)).trans h.obj) 0
  have hm1 : (m : Int) < (m : Int) + 1 := by omega
  have hm2 : (m : Int) ≤ 2199023255552 := by omega
  have hm3 : m ≤ cp := by omega
  generalize L.getD m 0 = y at *
  generalize L.getD 0 0 = x at *
  have hne : B ≠ g := by omega
  clear E h hp hL hn em ecut k1 h0 hcp
  go_enter Try.func64, Try.ntmps64
  go_wp2_with fail
  go_region
  go_wp2_with fail
  go_region
  go_wp2_with fail
  have hm0 := HM.out.1.on ((Same.refl (fun _ => False) _).drew.drew)
  have ks0 := HM.out.2.drew.drew
  generalize ((w.setCell ⟨g, 0, none⟩ (.int .i64 (y : Int))).setCell ⟨B, 0, none⟩ (.slice (some ⟨g, 0, none⟩) m cp)).drew.drew = W0 at hm0 ks0 ⊢
  clear HM q0 q1 i0 im j0 jm c0 f0
  refine Calls.mono (HLS.out W0 _ _ ks0 hm0 (List.Perm.refl _) 0 (Nat.zero_le _)) ?_
  rintro e W ⟨c, rfl, hls, kW⟩
  have MW : Hid _ := hm0.on kW
  have SW : Hid _ := ks0.trans' (kW.to _)
  have LS : Hid _ := hls
  clear hls kW hm0 ks0
  go_wp2_with fail
  go_loopw [5, 6] (fun u i wr => ∃ (a c : Nat) (L' : List Nat), u = .int .i64 a ∧ i = .int .i64 c ∧ Hm B wr ob lb (.slice (some ⟨g, 0, none⟩) m cp) L' ∧ Dn lt L' a ∧ Lst lt L' a c ∧ L'.Perm (cut0 L) ∧ Same (fun k => k = B ∨ some g = some k) w wr) (fun u _ _ => m - (intOf u).toNat)
  case atStart => exact ⟨0, c, cut0 L, rfl, rfl, MW.out, hD.out, LS.out, List.Perm.refl _, SW.out⟩
  case round =>
    obtain ⟨a, c, L', rfl, rfl, hm, hd, hls, hpm, ks⟩ := hrel
    have el : L'.length = m := hpm.length_eq.trans hcl.out
    have M3 : Hid _ := hm
    have PM : Hid _ := hpm
    have KS : Hid _ := ks
    by_cases hac : a = c
    · subst hac
      have HD : Hid _ := hls.hp hd
      clear hm hpm ks hls hd el
      go_wp2_with fail
      go_ret
      exact ⟨rfl, _, L', M3.out, HD.out, (PM.out.cons _).trans hPM.out, rfl, KS.out⟩
    · obtain ⟨hd2, hlt, hcl2⟩ := hls.dn O.out hac hd
      have d0 : ((a : Int) != (c : Int)) = true := by simp; omega
      have d0' : ¬ (a : Int) = (c : Int) := by omega
      have HSW : Hid _ := swap10 hm (i := a) (j := c) (by omega) hcl2
      have hPS : Hid ((swp L' a c).Perm L') := swp_perm (by omega) hcl2
      have HD : Hid _ := hd2
      have EL : Hid _ := el
      clear hm hpm ks hls hd hd2 el
      go_wp2_with fail
      refine Calls.mono HSW.out ?_
      rintro e w4 ⟨rfl, hm4, ks4⟩
      have K4 : Hid (Same (fun k => k = B ∨ some g = some k) w w4) := KS.out.trans ks4 fun i _ hi => .inr hi
      have M4 : Hid _ := hm4
      clear hm4 ks4 HSW
      go_wp2_with fail
      refine Calls.mono (HLS.out _ _ _ K4.out M4.out (hPS.out.trans PM.out) c (by rw [swp_len]; omega)) ?_
      rintro e w5 ⟨c', rfl, hls5, k5⟩
      have L5 : Hid _ := hls5
      have M5 : Hid _ := M4.out.on k5
      have K5 : Hid _ := K4.out.trans' (k5.to _)
      clear hls5 k5
      go_wp2_with fail
      go_roundw
      case rel => exact ⟨c, c', swp L' a c, rfl, rfl, M5.out, HD.out, L5.out, hPS.out.trans PM.out, K5.out⟩
      case measure => simp only [intOf]; have := EL.out; omega
end Go.Proofs.Ytcbllejjiokmbaa
