/- What is proved: replant, under a range over the roots at a key that the range has met; the forest lies in memory. -/
import Derived.Test.YtaiaahcblohknaaYRng
namespace Go.Proofs.Ytaiaahcblohknaa
open Go.RowKit

/-- A range over the roots. -/
abbrev Rgs (w : World) (mb r n : Nat) (D : DataW Value) (left : Lit → Bool) (ct : Nat) : Prop := w.ranges Try.prog 9 rawE mb r n D left ct
theorem Fm.laysR {F : Nat → Prop} {w : World} {fb nb cap fr mb : Nat} {c e : Int} {N : List Nd} {D : DataW Value} {R : List UInt8 → PT} (h : Fm F w fb nb cap fr mb c e N D R) {r n ct : Nat} {left : Lit → Bool} (hg : Rgs w mb r n D left ct) (hn : n < maxLen) {k : ByteArray} (hk : k.size ≤ maxLen) (hsz : Go.Maps.size D < maxLen) (T : PT) (hT : T ≠ .nil) (hat : Go.Maps.has D (kl k) = true) :
    ∃ w', (Instr.mapUpdate 53 (.map (some mb)) (.string k) (.int .i64 (T.root : Nat))).run Try.prog w = .ok () w' ∧ Fm F w' fb nb cap fr mb c e N (D.put (kl k) (.held (.int .i64 (T.root : Nat)))) (upd R k.toList T) ∧ Same (fun b => b = mb) w w' ∧ Rgs w' mb r n (D.put (kl k) (.held (.int .i64 (T.root : Nat)))) left ct := by
  obtain ⟨w1, hrun1, h2, h3⟩ := h.lays hk hsz T hT
  obtain ⟨w2, hrun2, h4, -⟩ := ranges_put hg Try.keyedS Try.underlying53 hn (key_of hk) (d := .held (.int .i64 (T.root : Nat))) (ps := []) rfl hat
  rw [hrun1] at hrun2
  obtain rfl : w1 = w2 := by simpa using hrun2
  exact ⟨w1, hrun1, h2, h3, h4⟩
set_option maxRecDepth 100000 in
set_option maxHeartbeats 1600000 in
theorem replantR {F : Nat → Prop} {w : World} {fb nb cap fr mb : Nat} {c e : Int} {N : List Nd} {D : DataW Value} {R : List UInt8 → PT} (h : Fm F w fb nb cap fr mb c e N D R) {r n ct : Nat} {left : Lit → Bool} (hg : Rgs w mb r n D left ct) (hn9 : n < maxLen) (k : ByteArray) (hk : k.size ≤ maxLen) (hsz : Go.Maps.size D < maxLen) (hat : Go.Maps.has D (kl k) = true) (hst : (fun z => left z && !z.sameKey (kl k)) = left) (T : PT) (hT : Lay N T) :
    Calls Try.prog 32 #[.pointer (some ⟨fb, 0, none⟩), .string k, .int .i64 (T.root : Nat)] w fun r' w' => r' = .returned (.tuple #[]) ∧ ∃ D' ct', Fm F w' fb nb cap fr mb c e N D' (upd R k.toList T) ∧ Same (fun b => b = mb) w w' ∧ Rgs w' mb r n D' left ct' ∧ ct' ≤ ct := by
  obtain ⟨⟨-, -, f2, -⟩, hb, -⟩ := h.ar.cells
  by_cases hn : T = .nil
  · subst hn
    have HF : Hid (∀ w' ct', Rgs w' mb r n (D.del (kl k)) (fun z => left z && !z.sameKey (kl k)) ct' → ct' ≤ ct → w.mapTurned w' mb → ∃ D' ct', Fm F w' fb nb cap fr mb c e N D' (upd R k.toList .nil) ∧ Same (fun b => b = mb) w w' ∧ Rgs w' mb r n D' left ct' ∧ ct' ≤ ct) := fun w' ct' ho hle ht => by
      rw [hst] at ho
      refine ⟨_, ct', h.gone k ?_ (same_turned ht), same_turned ht, ho, hle⟩
      exact (tight ho.owns).mono (by have := Go.Maps.size_del (k := kl k) (h.own.tidy Try.keyedS); omega)
    have HKO : Hid _ := key_of hk
    clear h hT
    show Calls Try.prog 32 #[.pointer (some ⟨fb, 0, none⟩), .string k, .int .i64 ((0 : Nat) : Int)] w _
    go_enter Try.func32, Try.ntmps32
    go_wp2_with (at_delete; apply Hid.out)
    refine wpList_delete_ranges _ rfl _ _ 53 9 rfl 3 Try.keyedS Try.underlying53 rawE mb r _ D left ct rfl hg _ _ rfl HKO.out ?_
    intro w1 ct1 ho1 hle1 ht1
    go_wp2_with fail
    refine bodyPost_ret (results_none rfl _ _ _) rfl ?_
    exact ⟨rfl, HF.out _ _ ho1 hle1 ht1⟩
  · have hr0 : ¬ ((T.root : Int) = 0) := by
      have : T.root ≠ 0 := fun e => hn (root_zero hT e)
      omega
    obtain ⟨w', hrun, h2, h3, h4⟩ := h.laysR hg hn9 hk hsz T hn hat
    have H2 : Hid _ := h2
    have H3 : Hid _ := h3
    have H4 : Hid (Rgs w' mb r n _ left ct) := h4
    clear h h2 h3 h4 hn hT hg
    generalize T.root = tr at *
    go_enter Try.func32, Try.ntmps32
    go_wp2_with fail
    go_end0
    exact ⟨rfl, _, ct, H2.out, H3.out, H4.out, Nat.le_refl _⟩
end Go.Proofs.Ytaiaahcblohknaa
