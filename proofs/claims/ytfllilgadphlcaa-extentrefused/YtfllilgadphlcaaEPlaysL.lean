/- What is proved: ExtentPlays answers true for every number of blocks and every script in memory. -/
import Derived.Test.YtfllilgadphlcaaEStepW
namespace Go.Proofs.Ytfllilgadphlcaa
open Go.RowKit

set_option maxRecDepth 100000 in
theorem plays_no (N : Int) (sa : Option Addr) (len sc : Nat) (w : World) (hN : N < 0 ∨ 4096 < N) :
    Calls Try.prog 3 #[.int .i64 N, .slice sa len sc] w fun e w' => e = .returned (.bool true) ∧ Kept w w' := by
  have hnot : ∀ (x : Bool) (w : World), (Op.unary .not (.bool x)).run Try.prog w = .ok (.bool (!x)) w := fun _ _ => rfl
  have HA : Hid (∀ w', _) := fun w' => anchor_any w'
  have HN : Hid (∀ w', _) := fun w' => new_no N hN w'
  have HR : Hid (∀ w', _) := fun w' => rnew_no N hN w'
  clear hN
  go_enter Try.func3, Try.ntmps3
  go_wp2_with fail
  refine Calls.mono (HA.out _) ?_
  rintro e w1 ⟨rfl, k1⟩
  go_wp2_with fail
  refine Calls.mono (HN.out _) ?_
  rintro e w2 ⟨rfl, h2⟩
  subst w2
  go_wp2_with fail
  refine Calls.mono (HR.out _) ?_
  rintro e w2 ⟨rfl, h2⟩
  subst w2
  go_wp2_with fail
  go_ret
  exact ⟨rfl, k1⟩

/-- A new space beside a new one of the document's. -/
theorem both_new {X : Nat → Prop} {w w2 w3 : World} {p q g N : Nat} {L : List Ex} (hs : SpX (fun k => k < w.heap.size) w2 p N L) (hm : ∀ b, Mm b L ↔ 0 ≤ b ∧ b < N) (rs : RS w3 q g N (fun _ => false)) (hq : w2.heap.size ≤ q) (hg : w2.heap.size ≤ g) (k : Kept w2 w3)
    (hX : ∀ k, X k → k < w.heap.size) (hw : w.heap.size ≤ w2.heap.size) : Both X w3 p q g N L (fun _ => false) := by
  refine ⟨?_, rs, fun h => by have := hX _ h; omega, fun h => by have := hX _ h; omega, fun b hb => ⟨fun _ => (hm b).2 (by omega), fun _ => rfl⟩⟩
  refine SpX.on (hs.mono (Y := fun k => X k ∨ k = q ∨ k = g) fun k hk e => ?_) k
  rcases e with e | e | e
  · exact hX k e
  · omega
  · omega

set_option maxRecDepth 100000 in
set_option maxHeartbeats 3200000 in
theorem plays_yes (N : Nat) (sa : Option Addr) (sc : Nat) (ls : List O3) (w : World) (hN : N ≤ 4096) (hs : OpsAt w sa ls) (hlen : ls.length ≤ 9223372036854775807) :
    Calls Try.prog 3 #[.int .i64 (N : Int), .slice sa ls.length sc] w fun e w' => e = .returned (.bool true) ∧ Kept w w' := by
  have hnot : ∀ (x : Bool) (w : World), (Op.unary .not (.bool x)).run Try.prog w = .ok (.bool (!x)) w := fun _ _ => rfl
  have HA : Hid (∀ w', _) := fun w' => anchor_any w'
  have HN : Hid (∀ w', _) := fun w' => new_x N hN w'
  have HR : Hid (∀ w', _) := fun w' => rnew_yes N hN w'
  have HO : Hid _ := hs
  obtain ⟨m, em⟩ : ∃ m, m = ls.length := ⟨_, rfl⟩
  rw [← em] at hlen ⊢
  have EM : Hid _ := em
  clear em hs
  go_enter Try.func3, Try.ntmps3
  go_wp2_with fail
  refine Calls.mono (HA.out _) ?_
  rintro e w1 ⟨rfl, k1⟩
  have K1 : Hid _ := k1
  clear k1
  go_wp2_with fail
  refine Calls.mono (HN.out _) ?_
  rintro e w2 ⟨p, L0, rfl, hsp, hm0, k2⟩
  have S2 : Hid _ := hsp
  have M2 : Hid _ := hm0
  have K2 : Hid _ := k2
  clear hsp hm0 k2
  go_wp2_with fail
  refine Calls.mono (HR.out _) ?_
  rintro e w3 ⟨q, g, rfl, rs3, hq, hg, k3⟩
  have B3 : Hid (Both (fun k => k < w.heap.size) w3 p q g N L0 (fun _ => false)) := both_new S2.out M2.out rs3 hq hg k3 (fun k h => Nat.lt_of_lt_of_le h K1.out.size) K2.out.size
  have K3 : Hid (Kept w w3) := (K1.out.trans' K2.out).trans' k3
  clear rs3 hq hg k3
  go_wp2_with fail
  go_loopw [37] (fun i wr => ∃ (j : Nat) (L : List Ex) (U : Nat → Bool), j ≤ m ∧ i = .int .i64 j ∧ Both (fun k => k < w.heap.size) wr p q g N L U ∧ Kept w wr) (fun i _ => m - (intOf i).toNat)
  case atStart => exact ⟨0, L0, _, Nat.zero_le _, rfl, B3.out, K3.out⟩
  case round =>
    obtain ⟨j, L, U, hj, rfl, hb, kk⟩ := hrel
    have KK : Hid _ := kk
    have HB : Hid _ := hb
    by_cases hlt : j < m
    · have c1' : decide ((j : Int) < (m : Int)) = true := by simp only [decide_eq_true_eq]; omega
      have hlt2 : (j : Int) < (m : Int) := by omega
      obtain ⟨o, ho⟩ : ∃ o, ls[j]? = some o := ⟨_, List.getElem?_eq_getElem (by rw [← EM.out]; exact hlt)⟩
      obtain ⟨⟨b, off, rfl, hbl, q0, q1, q2⟩, q3⟩ := (OpsAt.on HO.out kk) j o ho
      have kb : Kept wr (wr.alloc (opO o)) := (Same.refl _ _).alloc _
      have HS : Hid _ := step_any (hb.on kb) (fun k hk => Nat.lt_of_lt_of_le hk (Nat.le_trans kk.size kb.size)) o q3
      unfold opV opO at HS
      clear kk ho q3 kb hb
      go_wp2_with fail
      refine Calls.mono HS.out ?_
      rintro e w4 ⟨rfl, L', U', hb', k4, -⟩
      have HB4 : Hid _ := hb'
      have K4 : Hid (Kept w w4) := kept_of (KK.out.alloc _) k4 (fun _ h => h)
      clear hb' k4
      go_wp2_with fail
      go_roundw
      case rel => exact ⟨j + 1, L', U', by omega, by simp, HB4.out, K4.out⟩
      case measure => simp only [intOf]; omega
    · have c1' : decide ((j : Int) < (m : Int)) = false := by simp only [decide_eq_false_iff_not]; omega
      have HT : Hid _ := tells_any hb
      clear kk hb
      go_wp2_with fail
      refine Calls.mono HT.out ?_
      rintro e w4 ⟨rfl, k4⟩
      go_wp2_with fail
      go_ret
      exact ⟨rfl, KK.out.trans' k4⟩
end Go.Proofs.Ytfllilgadphlcaa
