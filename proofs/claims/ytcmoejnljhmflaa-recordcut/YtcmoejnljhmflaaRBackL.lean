/- What is proved: RecordBack answers true for every transaction. -/
import Derived.Test.YtcmoejnljhmflaaRCopy
namespace Go.Proofs.Ytcmoejnljhmflaa
open Go.RowKit

/-- What stands while a law runs: its transaction's box. -/
def Bx (w W : World) (t : TxM) (a : Option Addr) (n c : Nat) : Prop := Kept w W ∧ W.heap[w.heap.size]? = some (.cells #[.int .i64 t.f0, .int .i64 t.f1, .int .i64 t.f2, .int .i64 t.f3, .int .i64 t.f4, .int .i64 t.f5, .int .i64 t.f6, .slice a n c] 26 (0, 0))
theorem Bx.start (w : World) (t : TxM) (a : Option Addr) (n c : Nat) : Bx w (w.alloc (.cells #[.int .i64 t.f0, .int .i64 t.f1, .int .i64 t.f2, .int .i64 t.f3, .int .i64 t.f4, .int .i64 t.f5, .int .i64 t.f6, .slice a n c] 26 (0, 0))) t a n c := ⟨(Same.refl _ w).alloc _, heap_new w _⟩
theorem Bx.on {w W W1 : World} {t : TxM} {a : Option Addr} {n c : Nat} (h : Bx w W t a n c) (k : Kept W W1) : Bx w W1 t a n c := ⟨h.1.trans' k, (k.block _ (lt_of_heap h.2) (fun h => h)).trans h.2⟩
theorem OwnO.txan {base : Nat} {w : World} {t : TxM} {a : Option Addr} {n cap : Nat} (e : n = t.ops.length) (o : OwnO base w (.slice a n cap) t.ops) : TxA w t (txV t (.slice a n cap)) := by
  subst e
  exact OwnO.txa o
theorem Bx.lt {w W : World} {t : TxM} {a : Option Addr} {n c : Nat} (h : Bx w W t a n c) : w.heap.size < W.heap.size := lt_of_heap h.2
set_option maxRecDepth 100000 in
set_option maxHeartbeats 1600000 in
theorem back_no (w : World) (t : TxM) (a : Option Addr) (c : Nat) (h : ArgT w t a c) (hv : valid t ≠ 0) :
    Calls Try.prog 5 #[txV t (.slice a t.ops.length c)] w fun e w' => e = .returned (.bool true) ∧ Kept w w' := by
  have hnot : ∀ (x : Bool) (w : World), (Op.unary .not (.bool x)).run Try.prog w = .ok (.bool (!x)) w := fun _ _ => rfl
  have HA : Hid (∀ W, _) := fun W => anchor_any W
  have HC : Hid (∀ W, Kept w W → _) := fun W (k : Kept w W) => copy_any W t a c (h.on k)
  have HV : Hid (∀ W v, TxA W t v → _) := fun W v (q : TxA W t v) => valid_any W t v q
  have HE : Hid (∀ W v, TxA W t v → _) := fun W v (q : TxA W t v) => encode_no W t v q hv
  have hd : (valid t != 0) = true := by simpa using hv
  generalize valid t = z at HV HE hd
  obtain ⟨n, en⟩ : ∃ n, n = t.ops.length := ⟨_, rfl⟩
  have EN : Hid _ := en
  rw [← en] at HC ⊢
  clear h hv en
  unfold txV at HC ⊢
  have BX0 : Hid _ := Bx.start w t a n c
  go_enter Try.func5, Try.ntmps5
  go_wp2_with fail
  refine Calls.mono (HA.out _) ?_
  rintro e w1 ⟨rfl, k1⟩
  have BX1 : Hid _ := Bx.on BX0.out k1
  obtain ⟨⟨m0, m1, m2, m3, m4, m5, m6, m7⟩, -⟩ := tx_obj BX1.out.2
  clear k1
  go_wp2_with fail
  refine Calls.mono (HC.out _ BX1.out.1) ?_
  rintro e w2 ⟨a2, c2, rfl, oo, kk⟩
  have BX2 : Hid _ := Bx.on BX1.out kk
  clear m0 m1 m2 m3 m4 m5 m6 m7
  obtain ⟨⟨m0, m1, m2, m3, m4, m5, m6, m7⟩, -⟩ := tx_obj BX2.out.2
  have TX2 : Hid _ := OwnO.txan EN.out oo
  clear oo kk
  go_wp2_with fail
  refine Calls.mono (HV.out _ _ TX2.out) ?_
  rintro e w3 ⟨rfl, k3⟩
  have BX3 : Hid _ := Bx.on BX2.out k3
  clear m0 m1 m2 m3 m4 m5 m6 m7
  obtain ⟨⟨m0, m1, m2, m3, m4, m5, m6, m7⟩, -⟩ := tx_obj BX3.out.2
  clear k3
  go_wp2_with fail
  refine Calls.mono (HC.out _ BX3.out.1) ?_
  rintro e w4 ⟨a4, c4, rfl, oo, kk⟩
  have BX4 : Hid _ := Bx.on BX3.out kk
  clear m0 m1 m2 m3 m4 m5 m6 m7
  obtain ⟨⟨m0, m1, m2, m3, m4, m5, m6, m7⟩, -⟩ := tx_obj BX4.out.2
  have TX4 : Hid _ := OwnO.txan EN.out oo
  clear oo kk
  go_wp2_with fail
  refine Calls.mono (HE.out _ _ TX4.out) ?_
  rintro e w5 ⟨rfl, k5⟩
  have BX5 : Hid _ := Bx.on BX4.out k5
  go_wp2_with fail
  go_ret
  exact ⟨rfl, BX5.out.1⟩
set_option maxRecDepth 100000 in
set_option maxHeartbeats 1600000 in
theorem back_ok (w : World) (t : TxM) (a : Option Addr) (c : Nat) (h : ArgT w t a c) (hr : Right t) :
    Calls Try.prog 5 #[txV t (.slice a t.ops.length c)] w fun e w' => e = .returned (.bool true) ∧ Kept w w' := by
  have hnot : ∀ (x : Bool) (w : World), (Op.unary .not (.bool x)).run Try.prog w = .ok (.bool (!x)) w := fun _ _ => rfl
  have HA : Hid (∀ W, _) := fun W => anchor_any W
  have HC : Hid (∀ W, Kept w W → _) := fun W (k : Kept w W) => copy_any W t a c (h.on k)
  have HV : Hid (∀ W v, TxA W t v → _) := fun W v (q : TxA W t v) => valid_any W t v q
  have HE : Hid (∀ W v, TxA W t v → _) := fun W v (q : TxA W t v) => encode_ok W t v q hr
  rw [valid_zero.2 hr] at HV
  obtain ⟨l1, l2⟩ := body_len hr
  have HD : Hid (∀ base W v, OwnB base W v (body t) → _) := fun base W v (o : OwnB base W v (body t)) => decode_own_ok o (byts_body t) (by omega) (dec_body hr)
  have HS : Hid (∀ W va vb, TxA W t va → TxA W t vb → _) := fun W va vb ha hb => sameT W t va vb ha hb (by have := h.le; omega)
  obtain ⟨n, en⟩ : ∃ n, n = t.ops.length := ⟨_, rfl⟩
  have EN : Hid _ := en
  have HT : Hid (∀ W, Kept w W → TxA W t (txV t (.slice a n c))) := fun W k => by rw [en]; exact (h.on k).txa
  rw [← en] at HC HD ⊢
  obtain ⟨L, eL⟩ : ∃ L, L = (body t).length := ⟨_, rfl⟩
  rw [← eL] at l1 l2
  have EL : Hid _ := eL
  have d1 : decide ((464 : Int) < (L : Int)) = false := decide_eq_false (by omega)
  have d1' : ¬ (464 : Int) < (L : Int) := by omega
  have d2 : decide ((L : Int) < 8) = false := decide_eq_false (by omega)
  have d2' : ¬ (L : Int) < 8 := by omega
  clear h hr en eL
  unfold txV at HC HD ⊢
  have BX0 : Hid _ := Bx.start w t a n c
  go_enter Try.func5, Try.ntmps5
  go_wp2_with fail
  refine Calls.mono (HA.out _) ?_
  rintro e w1 ⟨rfl, k1⟩
  have BX1 : Hid _ := Bx.on BX0.out k1
  obtain ⟨⟨m0, m1, m2, m3, m4, m5, m6, m7⟩, -⟩ := tx_obj BX1.out.2
  clear k1
  go_wp2_with fail
  refine Calls.mono (HC.out _ BX1.out.1) ?_
  rintro e w2 ⟨a2, c2, rfl, oo, kk⟩
  have BX2 : Hid _ := Bx.on BX1.out kk
  clear m0 m1 m2 m3 m4 m5 m6 m7
  obtain ⟨⟨m0, m1, m2, m3, m4, m5, m6, m7⟩, -⟩ := tx_obj BX2.out.2
  have TX2 : Hid _ := OwnO.txan EN.out oo
  clear oo kk
  go_wp2_with fail
  refine Calls.mono (HV.out _ _ TX2.out) ?_
  rintro e w3 ⟨rfl, k3⟩
  have BX3 : Hid _ := Bx.on BX2.out k3
  clear m0 m1 m2 m3 m4 m5 m6 m7
  obtain ⟨⟨m0, m1, m2, m3, m4, m5, m6, m7⟩, -⟩ := tx_obj BX3.out.2
  clear k3
  go_wp2_with fail
  refine Calls.mono (HC.out _ BX3.out.1) ?_
  rintro e w4 ⟨a4, c4, rfl, oo, kk⟩
  have BX4 : Hid _ := Bx.on BX3.out kk
  clear m0 m1 m2 m3 m4 m5 m6 m7
  obtain ⟨⟨m0, m1, m2, m3, m4, m5, m6, m7⟩, -⟩ := tx_obj BX4.out.2
  have TX4 : Hid _ := OwnO.txan EN.out oo
  clear oo kk
  go_wp2_with fail
  refine Calls.mono (HE.out _ _ TX4.out) ?_
  rintro e w5 ⟨v5, rfl, o5, k5⟩
  have BX5 : Hid _ := Bx.on BX4.out k5
  clear m0 m1 m2 m3 m4 m5 m6 m7
  obtain ⟨⟨m0, m1, m2, m3, m4, m5, m6, m7⟩, -⟩ := tx_obj BX5.out.2
  obtain ⟨a5, c5, rfl, -⟩ := OwnB.bytes o5
  rw [← EL.out] at o5 ⊢
  have O5 : Hid _ := o5
  clear k5 o5
  go_wp2_with fail
  refine Calls.mono (HD.out _ _ _ O5.out) ?_
  rintro e w6 ⟨a6, c6, rfl, o6, k6⟩
  have BX6 : Hid _ := Bx.on BX5.out k6
  clear m0 m1 m2 m3 m4 m5 m6 m7
  obtain ⟨⟨m0, m1, m2, m3, m4, m5, m6, m7⟩, -⟩ := tx_obj BX6.out.2
  have T6 : Hid _ := OwnO.txan EN.out o6
  have hlt6 := Bx.lt BX6.out
  clear k6 o6
  unfold txV at T6
  go_wp2_with fail
  refine Calls.mono (HS.out _ _ _ (HT.out _ (BX6.out.1.alloc _)) (TxA.on T6.out ((Same.refl _ _).alloc _))) ?_
  rintro e w7 ⟨rfl, k7⟩
  have K7 : Hid (Kept w w7) := (BX6.out.1.alloc _).trans' k7
  clear k7
  go_wp2_with fail
  go_ret
  exact ⟨rfl, K7.out⟩
end Go.Proofs.Ytcmoejnljhmflaa
