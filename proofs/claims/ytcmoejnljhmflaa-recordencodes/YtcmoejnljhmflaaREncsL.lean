/- What is proved: RecordEncodes answers true for every transaction. -/
import Derived.Test.YtcmoejnljhmflaaRBackL
import Derived.Test.YtcmoejnljhmflaaRRVal
import Derived.Test.YtcmoejnljhmflaaRRBody
namespace Go.Proofs.Ytcmoejnljhmflaa
open Go.RowKit

set_option maxRecDepth 100000 in
set_option maxHeartbeats 1600000 in
theorem encs_no (w : World) (t : TxM) (a : Option Addr) (c : Nat) (h : ArgT w t a c) (hv : valid t ≠ 0) :
    Calls Try.prog 4 #[txV t (.slice a t.ops.length c)] w fun e w' => e = .returned (.bool true) ∧ Kept w w' := by
  have hnot : ∀ (x : Bool) (w : World), (Op.unary .not (.bool x)).run Try.prog w = .ok (.bool (!x)) w := fun _ _ => rfl
  have HA : Hid (∀ W, _) := fun W => anchor_any W
  have HC : Hid (∀ W, Kept w W → _) := fun W (k : Kept w W) => copy_any W t a c (h.on k)
  have HV : Hid (∀ W, Kept w W → _) := fun W (k : Kept w W) => validR_any W t _ (h.on k).txa
  have HV2 : Hid (∀ W v, TxA W t v → _) := fun W v (q : TxA W t v) => valid_any W t v q
  have HE : Hid (∀ W v, TxA W t v → _) := fun W v (q : TxA W t v) => encode_no W t v q hv
  have HZ : Hid (∀ W v, TxA W t v → _) := fun W v (q : TxA W t v) => size_wrong W t v q hv
  have hd : (valid t != 0) = true := by simpa using hv
  generalize valid t = z at HV HV2 HE hd
  have hzz : (z != z) = false := by simp
  obtain ⟨n, en⟩ : ∃ n, n = t.ops.length := ⟨_, rfl⟩
  have EN : Hid _ := en
  rw [← en] at HC HV ⊢
  clear h hv en
  unfold txV at HC HV ⊢
  have BX0 : Hid _ := Bx.start w t a n c
  go_enter Try.func4, Try.ntmps4
  go_wp2_with fail
  refine Calls.mono (HA.out _) ?_
  rintro e w1 ⟨rfl, k1⟩
  have BX1 : Hid _ := Bx.on BX0.out k1
  obtain ⟨⟨m0, m1, m2, m3, m4, m5, m6, m7⟩, -⟩ := tx_obj BX1.out.2
  clear k1
  go_wp2_with fail
  refine Calls.mono (HV.out _ BX1.out.1) ?_
  rintro e w2 ⟨rfl, k2⟩
  have BX2 : Hid _ := Bx.on BX1.out k2
  clear m0 m1 m2 m3 m4 m5 m6 m7
  obtain ⟨⟨m0, m1, m2, m3, m4, m5, m6, m7⟩, -⟩ := tx_obj BX2.out.2
  clear k2
  go_wp2_with fail
  refine Calls.mono (HC.out _ BX2.out.1) ?_
  rintro e w3 ⟨a3, c3, rfl, oo, kk⟩
  have BX3 : Hid _ := Bx.on BX2.out kk
  clear m0 m1 m2 m3 m4 m5 m6 m7
  obtain ⟨⟨m0, m1, m2, m3, m4, m5, m6, m7⟩, -⟩ := tx_obj BX3.out.2
  have TX3 : Hid _ := OwnO.txan EN.out oo
  clear oo kk
  go_wp2_with fail
  refine Calls.mono (HE.out _ _ TX3.out) ?_
  rintro e w4 ⟨rfl, k4⟩
  have BX4 : Hid _ := Bx.on BX3.out k4
  clear m0 m1 m2 m3 m4 m5 m6 m7
  obtain ⟨⟨m0, m1, m2, m3, m4, m5, m6, m7⟩, -⟩ := tx_obj BX4.out.2
  clear k4
  go_wp2_with fail
  refine Calls.mono (HC.out _ BX4.out.1) ?_
  rintro e w5 ⟨a5, c5, rfl, oo, kk⟩
  have BX5 : Hid _ := Bx.on BX4.out kk
  clear m0 m1 m2 m3 m4 m5 m6 m7
  obtain ⟨⟨m0, m1, m2, m3, m4, m5, m6, m7⟩, -⟩ := tx_obj BX5.out.2
  have TX5 : Hid _ := OwnO.txan EN.out oo
  clear oo kk
  go_wp2_with fail
  refine Calls.mono (HV2.out _ _ TX5.out) ?_
  rintro e w6 ⟨rfl, k6⟩
  have BX6 : Hid _ := Bx.on BX5.out k6
  clear m0 m1 m2 m3 m4 m5 m6 m7
  obtain ⟨⟨m0, m1, m2, m3, m4, m5, m6, m7⟩, -⟩ := tx_obj BX6.out.2
  clear k6
  go_wp2_with fail
  refine Calls.mono (HC.out _ BX6.out.1) ?_
  rintro e w7 ⟨a7, c7, rfl, oo, kk⟩
  have BX7 : Hid _ := Bx.on BX6.out kk
  clear m0 m1 m2 m3 m4 m5 m6 m7
  obtain ⟨⟨m0, m1, m2, m3, m4, m5, m6, m7⟩, -⟩ := tx_obj BX7.out.2
  have TX7 : Hid _ := OwnO.txan EN.out oo
  clear oo kk
  go_wp2_with fail
  refine Calls.mono (HZ.out _ _ TX7.out) ?_
  rintro e w8 ⟨rfl, k8⟩
  have BX8 : Hid _ := Bx.on BX7.out k8
  clear m0 m1 m2 m3 m4 m5 m6 m7
  obtain ⟨⟨m0, m1, m2, m3, m4, m5, m6, m7⟩, -⟩ := tx_obj BX8.out.2
  clear k8
  go_wp2_with fail
  go_ret
  exact ⟨rfl, BX8.out.1⟩
set_option maxRecDepth 100000 in
set_option maxHeartbeats 1600000 in
theorem encs_ok (w : World) (t : TxM) (a : Option Addr) (c : Nat) (h : ArgT w t a c) (hr : Right t) :
    Calls Try.prog 4 #[txV t (.slice a t.ops.length c)] w fun e w' => e = .returned (.bool true) ∧ Kept w w' := by
  have hnot : ∀ (x : Bool) (w : World), (Op.unary .not (.bool x)).run Try.prog w = .ok (.bool (!x)) w := fun _ _ => rfl
  have HA : Hid (∀ W, _) := fun W => anchor_any W
  have HC : Hid (∀ W, Kept w W → _) := fun W (k : Kept w W) => copy_any W t a c (h.on k)
  have HV : Hid (∀ W, Kept w W → _) := fun W (k : Kept w W) => validR_any W t _ (h.on k).txa
  have HV2 : Hid (∀ W v, TxA W t v → _) := fun W v (q : TxA W t v) => valid_any W t v q
  have HE : Hid (∀ W v, TxA W t v → _) := fun W v (q : TxA W t v) => encode_ok W t v q hr
  have HZ : Hid (∀ W v, TxA W t v → _) := fun W v (q : TxA W t v) => size_ok W t v q hr
  have HB : Hid (∀ W, Kept w W → _) := fun W (k : Kept w W) => body_ref W t _ (h.on k).txa hr
  rw [valid_zero.2 hr] at HV HV2
  obtain ⟨l1, l2⟩ := body_len hr
  have HSM : Hid (∀ (W : World) (a b : Option Addr) (ca cb : Nat), BytesAt W a (body t) → BytesAt W b (body t) → _) := fun W a b ca cb ha hb => same_true W a b ca cb (body t) ha hb (by omega)
  obtain ⟨n, en⟩ : ∃ n, n = t.ops.length := ⟨_, rfl⟩
  have EN : Hid _ := en
  obtain ⟨L, eL⟩ : ∃ L, L = (body t).length := ⟨_, rfl⟩
  have EL : Hid _ := eL
  rw [← en] at HC HV HB ⊢
  rw [← eL] at HZ HSM l1 l2
  have dL : ((L : Int) == (L : Int)) = true := by simp
  clear h hr en eL
  unfold txV at HC HV HB ⊢
  have BX0 : Hid _ := Bx.start w t a n c
  go_enter Try.func4, Try.ntmps4
  go_wp2_with fail
  refine Calls.mono (HA.out _) ?_
  rintro e w1 ⟨rfl, k1⟩
  have BX1 : Hid _ := Bx.on BX0.out k1
  obtain ⟨⟨m0, m1, m2, m3, m4, m5, m6, m7⟩, -⟩ := tx_obj BX1.out.2
  clear k1
  go_wp2_with fail
  refine Calls.mono (HV.out _ BX1.out.1) ?_
  rintro e w2 ⟨rfl, k2⟩
  have BX2 : Hid _ := Bx.on BX1.out k2
  clear m0 m1 m2 m3 m4 m5 m6 m7
  obtain ⟨⟨m0, m1, m2, m3, m4, m5, m6, m7⟩, -⟩ := tx_obj BX2.out.2
  clear k2
  go_wp2_with fail
  refine Calls.mono (HC.out _ BX2.out.1) ?_
  rintro e w3 ⟨a3, c3, rfl, oo, kk⟩
  have BX3 : Hid _ := Bx.on BX2.out kk
  clear m0 m1 m2 m3 m4 m5 m6 m7
  obtain ⟨⟨m0, m1, m2, m3, m4, m5, m6, m7⟩, -⟩ := tx_obj BX3.out.2
  have TX3 : Hid _ := OwnO.txan EN.out oo
  clear oo kk
  go_wp2_with fail
  refine Calls.mono (HE.out _ _ TX3.out) ?_
  rintro e w4 ⟨v4, rfl, o4, k4⟩
  obtain ⟨a4, c4, rfl, b4, -⟩ := OwnB.bytes o4
  rw [← EL.out]
  have B4 : Hid _ := b4
  have BX4 : Hid _ := Bx.on BX3.out k4
  clear m0 m1 m2 m3 m4 m5 m6 m7
  obtain ⟨⟨m0, m1, m2, m3, m4, m5, m6, m7⟩, -⟩ := tx_obj BX4.out.2
  have P4 : Hid (Kept w4 w4) := Same.refl _ _
  clear k4 o4 b4
  go_wp2_with fail
  refine Calls.mono (HC.out _ BX4.out.1) ?_
  rintro e w5 ⟨a5, c5, rfl, oo, kk⟩
  have BX5 : Hid _ := Bx.on BX4.out kk
  clear m0 m1 m2 m3 m4 m5 m6 m7
  obtain ⟨⟨m0, m1, m2, m3, m4, m5, m6, m7⟩, -⟩ := tx_obj BX5.out.2
  have P5 : Hid (Kept w4 w5) := Same.trans' P4.out kk
  have TX5 : Hid _ := OwnO.txan EN.out oo
  clear oo kk
  go_wp2_with fail
  refine Calls.mono (HV2.out _ _ TX5.out) ?_
  rintro e w6 ⟨rfl, k6⟩
  have BX6 : Hid _ := Bx.on BX5.out k6
  clear m0 m1 m2 m3 m4 m5 m6 m7
  obtain ⟨⟨m0, m1, m2, m3, m4, m5, m6, m7⟩, -⟩ := tx_obj BX6.out.2
  have P6 : Hid (Kept w4 w6) := Same.trans' P5.out k6
  clear k6
  go_wp2_with fail
  refine Calls.mono (HC.out _ BX6.out.1) ?_
  rintro e w7 ⟨a7, c7, rfl, oo, kk⟩
  have BX7 : Hid _ := Bx.on BX6.out kk
  clear m0 m1 m2 m3 m4 m5 m6 m7
  obtain ⟨⟨m0, m1, m2, m3, m4, m5, m6, m7⟩, -⟩ := tx_obj BX7.out.2
  have P7 : Hid (Kept w4 w7) := Same.trans' P6.out kk
  have TX7 : Hid _ := OwnO.txan EN.out oo
  clear oo kk
  go_wp2_with fail
  refine Calls.mono (HZ.out _ _ TX7.out) ?_
  rintro e w8 ⟨rfl, k8⟩
  have BX8 : Hid _ := Bx.on BX7.out k8
  clear m0 m1 m2 m3 m4 m5 m6 m7
  obtain ⟨⟨m0, m1, m2, m3, m4, m5, m6, m7⟩, -⟩ := tx_obj BX8.out.2
  have P8 : Hid (Kept w4 w8) := Same.trans' P7.out k8
  clear k8
  go_wp2_with fail
  refine Calls.mono (HB.out _ BX8.out.1) ?_
  rintro e w9 ⟨v9, rfl, o9, k9⟩
  obtain ⟨a9, c9, rfl, b9, -⟩ := OwnB.bytes o9
  have HS9 : Hid _ := HSM.out _ a4 a9 c4 c9 (BytesAt.kept B4.out (Same.trans' P8.out k9) (fun _ _ h => h)) b9
  have K9 : Hid (Kept w w9) := Same.trans' BX8.out.1 k9
  rw [← EL.out]
  clear o9 b9 k9
  go_wp2_with fail
  refine Calls.mono HS9.out ?_
  rintro e w10 ⟨rfl, rfl⟩
  go_wp2_with fail
  go_ret
  exact ⟨rfl, K9.out⟩
end Go.Proofs.Ytcmoejnljhmflaa
