/- What is proved: RecordCut answers true for every transaction, every place and every list of bytes. -/
import Derived.Test.YtcmoejnljhmflaaRBackL
import Derived.Test.YtcmoejnljhmflaaRRVal
import Derived.Test.YtcmoejnljhmflaaRPlaceL
namespace Go.Proofs.Ytcmoejnljhmflaa
open Go.RowKit

/-- A row of one's own, as an argument. -/
theorem OwnB.arg {base : Nat} {w : World} {a : Option Addr} {n c : Nat} {l : List Int} (e : n = l.length) (o : OwnB base w (.slice a n c) l) (hb : Byts l) (hl : l.length ≤ 464) : ArgB w a c l := by
  obtain ⟨a', c', e', hd, h1, h2, -, -⟩ := OwnB.bytes o
  simp only [Value.slice.injEq] at e'
  obtain ⟨rfl, -, rfl⟩ := e'
  exact ⟨hd, h2, h1, hb, by unfold reachBytes; omega⟩
set_option maxRecDepth 100000 in
set_option maxHeartbeats 1600000 in
theorem cut_no (w : World) (t : TxM) (a : Option Addr) (c : Nat) (cut : Int) (ob : Option Addr) (d : Nat) (m : List Int) (h : ArgT w t a c) (_ : ArgB w ob d m) (hv : valid t ≠ 0) :
    Calls Try.prog 7 #[txV t (.slice a t.ops.length c), .int .i64 cut, .slice ob m.length d] w fun e w' => e = .returned (.bool true) ∧ Kept w w' := by
  have hnot : ∀ (x : Bool) (w : World), (Op.unary .not (.bool x)).run Try.prog w = .ok (.bool (!x)) w := fun _ _ => rfl
  have HA : Hid (∀ W, _) := fun W => anchor_any W
  have HC : Hid (∀ W, Kept w W → _) := fun W (k : Kept w W) => copy_any W t a c (h.on k)
  have HV : Hid (∀ W, Kept w W → _) := fun W (k : Kept w W) => validR_any W t _ (h.on k).txa
  have hd : (valid t != 0) = true := by simpa using hv
  generalize valid t = z at HV hd
  obtain ⟨n, en⟩ : ∃ n, n = t.ops.length := ⟨_, rfl⟩
  have EN : Hid _ := en
  obtain ⟨M, eM⟩ : ∃ M, M = m.length := ⟨_, rfl⟩
  rw [← en] at HC HV ⊢
  rw [← eM]
  clear h hv en eM
  unfold txV at HC HV ⊢
  have BX0 : Hid _ := Bx.start w t a n c
  go_enter Try.func7, Try.ntmps7
  go_wp2_with fail
  refine Calls.mono (HA.out _) ?_
  rintro e w1 ⟨rfl, k1⟩
  have BX1 : Hid _ := Bx.on BX0.out k1
  obtain ⟨⟨m0, m1, m2, m3, m4, m5, m6, m7⟩, -⟩ := tx_obj BX1.out.2
  clear k1
  go_wp2_with fail
  refine Calls.mono (HV.out _ BX1.out.1) ?_
  rintro e w3 ⟨rfl, k3⟩
  have BX2 : Hid _ := Bx.on BX1.out k3
  clear k3
  go_wp2_with fail
  go_ret
  exact ⟨rfl, BX2.out.1⟩
set_option maxRecDepth 100000 in
set_option maxHeartbeats 1600000 in
theorem cut_nn (w : World) (t : TxM) (a : Option Addr) (c : Nat) (cut : Int) (ob : Option Addr) (d : Nat) (m : List Int) (h : ArgT w t a c) (h2 : ArgB w ob d m) (hr : Right t) (hc : ¬ (0 ≤ cut ∧ cut < ((body t).length : Int))) (hm : m = []) :
    Calls Try.prog 7 #[txV t (.slice a t.ops.length c), .int .i64 cut, .slice ob m.length d] w fun e w' => e = .returned (.bool true) ∧ Kept w w' := by
  have hnot : ∀ (x : Bool) (w : World), (Op.unary .not (.bool x)).run Try.prog w = .ok (.bool (!x)) w := fun _ _ => rfl
  have HA : Hid (∀ W, _) := fun W => anchor_any W
  have HC : Hid (∀ W, Kept w W → _) := fun W (k : Kept w W) => copy_any W t a c (h.on k)
  have HV : Hid (∀ W, Kept w W → _) := fun W (k : Kept w W) => validR_any W t _ (h.on k).txa
  have HE : Hid (∀ W v, TxA W t v → _) := fun W v (q : TxA W t v) => encode_ok W t v q hr
  rw [valid_zero.2 hr] at HV
  have hle2 := h2.le
  obtain ⟨l1, l2⟩ := body_len hr
  have hm0 : m.length = 0 := by rw [hm]; rfl
  obtain ⟨n, en⟩ : ∃ n, n = t.ops.length := ⟨_, rfl⟩
  have EN : Hid _ := en
  obtain ⟨M, eM⟩ : ∃ M, M = m.length := ⟨_, rfl⟩
  rw [← en] at HC HV ⊢
  rw [← eM] at hm0 ⊢
  obtain ⟨L, eL⟩ : ∃ L, L = (body t).length := ⟨_, rfl⟩
  have EL : Hid _ := eL
  rw [← eL] at hc l1 l2
  have dM : ((M : Int) == 0) = true := by rw [hm0]; rfl
  clear h h2 hr en eM eL hle2 hm0 hm
  unfold txV at HC HV ⊢
  by_cases q0 : 0 ≤ cut
  · have q1 : decide (0 ≤ cut) = true := decide_eq_true q0
    have q2 : decide (cut < (L : Int)) = false := decide_eq_false (by omega)
    have q2' : ¬ cut < (L : Int) := by omega
    clear hc
    have BX0 : Hid _ := Bx.start w t a n c
    go_enter Try.func7, Try.ntmps7
    go_wp2_with fail
    refine Calls.mono (HA.out _) ?_
    rintro e w1 ⟨rfl, k1⟩
    have BX1 : Hid _ := Bx.on BX0.out k1
    obtain ⟨⟨m0, m1, m2, m3, m4, m5, m6, m7⟩, -⟩ := tx_obj BX1.out.2
    clear k1
    go_wp2_with fail
    refine Calls.mono (HV.out _ BX1.out.1) ?_
    rintro e w3 ⟨rfl, k3⟩
    have BX2 : Hid _ := Bx.on BX1.out k3
    clear m0 m1 m2 m3 m4 m5 m6 m7
    obtain ⟨⟨m0, m1, m2, m3, m4, m5, m6, m7⟩, -⟩ := tx_obj BX2.out.2
    clear k3
    go_wp2_with fail
    refine Calls.mono (HC.out _ BX2.out.1) ?_
    rintro e w4 ⟨a4, c4, rfl, oo, kk⟩
    have BX3 : Hid _ := Bx.on BX2.out kk
    clear m0 m1 m2 m3 m4 m5 m6 m7
    obtain ⟨⟨m0, m1, m2, m3, m4, m5, m6, m7⟩, -⟩ := tx_obj BX3.out.2
    have TX3 : Hid _ := OwnO.txan EN.out oo
    clear oo kk
    go_wp2_with fail
    refine Calls.mono (HE.out _ _ TX3.out) ?_
    rintro e w5 ⟨v5, rfl, o5, k5⟩
    have BX4 : Hid _ := Bx.on BX3.out k5
    clear m0 m1 m2 m3 m4 m5 m6 m7
    obtain ⟨a5, c5, rfl, -⟩ := OwnB.bytes o5
    rw [← EL.out] at o5 ⊢
    have O5 : Hid _ := o5
    have KW8 : Hid (Kept w w5) := BX4.out.1
    clear k5 o5
    go_wp2_with fail
    go_ret
    exact ⟨rfl, KW8.out⟩
  · have q1 : decide (0 ≤ cut) = false := decide_eq_false q0
    clear hc
    have BX0 : Hid _ := Bx.start w t a n c
    go_enter Try.func7, Try.ntmps7
    go_wp2_with fail
    refine Calls.mono (HA.out _) ?_
    rintro e w1 ⟨rfl, k1⟩
    have BX1 : Hid _ := Bx.on BX0.out k1
    obtain ⟨⟨m0, m1, m2, m3, m4, m5, m6, m7⟩, -⟩ := tx_obj BX1.out.2
    clear k1
    go_wp2_with fail
    refine Calls.mono (HV.out _ BX1.out.1) ?_
    rintro e w3 ⟨rfl, k3⟩
    have BX2 : Hid _ := Bx.on BX1.out k3
    clear m0 m1 m2 m3 m4 m5 m6 m7
    obtain ⟨⟨m0, m1, m2, m3, m4, m5, m6, m7⟩, -⟩ := tx_obj BX2.out.2
    clear k3
    go_wp2_with fail
    refine Calls.mono (HC.out _ BX2.out.1) ?_
    rintro e w4 ⟨a4, c4, rfl, oo, kk⟩
    have BX3 : Hid _ := Bx.on BX2.out kk
    clear m0 m1 m2 m3 m4 m5 m6 m7
    obtain ⟨⟨m0, m1, m2, m3, m4, m5, m6, m7⟩, -⟩ := tx_obj BX3.out.2
    have TX3 : Hid _ := OwnO.txan EN.out oo
    clear oo kk
    go_wp2_with fail
    refine Calls.mono (HE.out _ _ TX3.out) ?_
    rintro e w5 ⟨v5, rfl, o5, k5⟩
    have BX4 : Hid _ := Bx.on BX3.out k5
    clear m0 m1 m2 m3 m4 m5 m6 m7
    obtain ⟨a5, c5, rfl, -⟩ := OwnB.bytes o5
    rw [← EL.out] at o5 ⊢
    have O5 : Hid _ := o5
    have KW8 : Hid (Kept w w5) := BX4.out.1
    clear k5 o5
    go_wp2_with fail
    go_ret
    exact ⟨rfl, KW8.out⟩
set_option maxRecDepth 100000 in
set_option maxHeartbeats 1600000 in
theorem cut_nt (w : World) (t : TxM) (a : Option Addr) (c : Nat) (cut : Int) (ob : Option Addr) (d : Nat) (m : List Int) (h : ArgT w t a c) (h2 : ArgB w ob d m) (hr : Right t) (hc : ¬ (0 ≤ cut ∧ cut < ((body t).length : Int))) (hm : m ≠ []) :
    Calls Try.prog 7 #[txV t (.slice a t.ops.length c), .int .i64 cut, .slice ob m.length d] w fun e w' => e = .returned (.bool true) ∧ Kept w w' := by
  have hnot : ∀ (x : Bool) (w : World), (Op.unary .not (.bool x)).run Try.prog w = .ok (.bool (!x)) w := fun _ _ => rfl
  have HA : Hid (∀ W, _) := fun W => anchor_any W
  have HC : Hid (∀ W, Kept w W → _) := fun W (k : Kept w W) => copy_any W t a c (h.on k)
  have HV : Hid (∀ W, Kept w W → _) := fun W (k : Kept w W) => validR_any W t _ (h.on k).txa
  have HE : Hid (∀ W v, TxA W t v → _) := fun W v (q : TxA W t v) => encode_ok W t v q hr
  rw [valid_zero.2 hr] at HV
  have hle2 := h2.le
  obtain ⟨l1, l2⟩ := body_len hr
  have HD2 : Hid (∀ base W v, OwnB base W v (body t ++ m) → _) := fun base W v (o : OwnB base W v (body t ++ m)) => decode_own_no o ((byts_body t).append h2.byts) (by rw [List.length_append]; omega) (dec_tail hr hm)
  have HR2 : Hid (∀ base W a n c, n = (body t).length → OwnB base W (.slice a n c) (body t) → ∀ ty, ∃ v' w', (Builtin.append_ #[22, 22] ty #[.slice (some ⟨W.heap.size, 0, none⟩) 0 0, .slice a n c]).run Try.prog (W.alloc (.cells #[] 5)) = .ok v' w' ∧ OwnB W.heap.size w' v' (body t) ∧ Kept W w') := fun base W a n c e o => by
    have q := OwnB.arg e o (byts_body t) l1
    subst e
    exact app_lit (c := c) q.data q.nil (by have := q.le; omega)
  have HR3 : Hid (∀ base W v, Kept w W → base ≤ W.heap.size → OwnB base W v (body t) → _) := fun base W v (k : Kept w W) hb (o : OwnB base W v (body t)) => app_bytes (c := d) o (h2.on k).data h2.nil (by omega) hb
  rw [show txV t0 (.slice none 0 0) = .agg #[.int .i64 0, .int .i64 0, .int .i64 0, .int .i64 0, .int .i64 0, .int .i64 0, .int .i64 0, .slice none 0 0] from rfl] at HD2
  have hmp : 0 < m.length := List.length_pos_iff.2 hm
  obtain ⟨n, en⟩ : ∃ n, n = t.ops.length := ⟨_, rfl⟩
  have EN : Hid _ := en
  obtain ⟨M, eM⟩ : ∃ M, M = m.length := ⟨_, rfl⟩
  rw [← en] at HC HV ⊢
  rw [← eM] at HR3 hmp ⊢
  obtain ⟨L, eL⟩ : ∃ L, L = (body t).length := ⟨_, rfl⟩
  have EL : Hid _ := eL
  rw [← eL] at HD2
  rw [← eL] at hc l1 l2
  have dM : ((M : Int) == 0) = false := by rw [beq_eq_false_iff_ne]; omega
  have dL : ((L : Int) == (L : Int)) = true := by simp
  clear h h2 hr en eM eL hle2 hmp hm
  unfold txV at HC HV ⊢
  by_cases q0 : 0 ≤ cut
  · have q1 : decide (0 ≤ cut) = true := decide_eq_true q0
    have q2 : decide (cut < (L : Int)) = false := decide_eq_false (by omega)
    have q2' : ¬ cut < (L : Int) := by omega
    clear hc
    have BX0 : Hid _ := Bx.start w t a n c
    go_enter Try.func7, Try.ntmps7
    go_wp2_with fail
    refine Calls.mono (HA.out _) ?_
    rintro e w1 ⟨rfl, k1⟩
    have BX1 : Hid _ := Bx.on BX0.out k1
    obtain ⟨⟨m0, m1, m2, m3, m4, m5, m6, m7⟩, -⟩ := tx_obj BX1.out.2
    clear k1
    go_wp2_with fail
    refine Calls.mono (HV.out _ BX1.out.1) ?_
    rintro e w3 ⟨rfl, k3⟩
    have BX2 : Hid _ := Bx.on BX1.out k3
    clear m0 m1 m2 m3 m4 m5 m6 m7
    obtain ⟨⟨m0, m1, m2, m3, m4, m5, m6, m7⟩, -⟩ := tx_obj BX2.out.2
    clear k3
    go_wp2_with fail
    refine Calls.mono (HC.out _ BX2.out.1) ?_
    rintro e w4 ⟨a4, c4, rfl, oo, kk⟩
    have BX3 : Hid _ := Bx.on BX2.out kk
    clear m0 m1 m2 m3 m4 m5 m6 m7
    obtain ⟨⟨m0, m1, m2, m3, m4, m5, m6, m7⟩, -⟩ := tx_obj BX3.out.2
    have TX3 : Hid _ := OwnO.txan EN.out oo
    clear oo kk
    go_wp2_with fail
    refine Calls.mono (HE.out _ _ TX3.out) ?_
    rintro e w5 ⟨v5, rfl, o5, k5⟩
    have BX4 : Hid _ := Bx.on BX3.out k5
    clear m0 m1 m2 m3 m4 m5 m6 m7
    obtain ⟨a5, c5, rfl, -⟩ := OwnB.bytes o5
    rw [← EL.out] at o5 ⊢
    have O5 : Hid _ := o5
    have KW8 : Hid (Kept w w5) := BX4.out.1
    clear k5 o5
    have HR4 : Hid _ := HR2.out _ _ _ _ _ EL.out O5.out
    have HR5 : Hid (∀ v9 w9, OwnB w5.heap.size w9 v9 (body t) → Kept w5 w9 → _) := fun v9 w9 o9 (k9 : Kept w5 w9) => HR3.out _ w9 v9 (KW8.out.trans' k9) k9.size o9
    go_wp2_with (first
      | (at_builtin; refine wpList_app rfl (.tmp 67) (.tmp 68) 22 22 rfl _ _ rfl rfl _ HR4.out ?_; rintro v9 w9 ⟨o9, k9⟩)
      | (at_builtin; refine wpList_app rfl (.tmp 69) (.tmp 70) 22 22 rfl _ _ rfl rfl _ (HR5.out _ _ o9 k9) ?_; rintro v10 w10 ⟨o10, s10⟩))
    refine Calls.mono (HD2.out _ _ _ o10) ?_
    rintro e w11 ⟨rfl, k11⟩
    have hz8 := KW8.out.size
    have K11 : Hid (Kept w w11) := ((Same.trans' KW8.out k9).trans s10 (fun i hi e => by omega)).trans' k11
    clear o9 k9 o10 s10 k11 hz8
    go_wp2_with fail
    go_ret
    exact ⟨rfl, K11.out.alloc _⟩
  · have q1 : decide (0 ≤ cut) = false := decide_eq_false q0
    clear hc
    have BX0 : Hid _ := Bx.start w t a n c
    go_enter Try.func7, Try.ntmps7
    go_wp2_with fail
    refine Calls.mono (HA.out _) ?_
    rintro e w1 ⟨rfl, k1⟩
    have BX1 : Hid _ := Bx.on BX0.out k1
    obtain ⟨⟨m0, m1, m2, m3, m4, m5, m6, m7⟩, -⟩ := tx_obj BX1.out.2
    clear k1
    go_wp2_with fail
    refine Calls.mono (HV.out _ BX1.out.1) ?_
    rintro e w3 ⟨rfl, k3⟩
    have BX2 : Hid _ := Bx.on BX1.out k3
    clear m0 m1 m2 m3 m4 m5 m6 m7
    obtain ⟨⟨m0, m1, m2, m3, m4, m5, m6, m7⟩, -⟩ := tx_obj BX2.out.2
    clear k3
    go_wp2_with fail
    refine Calls.mono (HC.out _ BX2.out.1) ?_
    rintro e w4 ⟨a4, c4, rfl, oo, kk⟩
    have BX3 : Hid _ := Bx.on BX2.out kk
    clear m0 m1 m2 m3 m4 m5 m6 m7
    obtain ⟨⟨m0, m1, m2, m3, m4, m5, m6, m7⟩, -⟩ := tx_obj BX3.out.2
    have TX3 : Hid _ := OwnO.txan EN.out oo
    clear oo kk
    go_wp2_with fail
    refine Calls.mono (HE.out _ _ TX3.out) ?_
    rintro e w5 ⟨v5, rfl, o5, k5⟩
    have BX4 : Hid _ := Bx.on BX3.out k5
    clear m0 m1 m2 m3 m4 m5 m6 m7
    obtain ⟨a5, c5, rfl, -⟩ := OwnB.bytes o5
    rw [← EL.out] at o5 ⊢
    have O5 : Hid _ := o5
    have KW8 : Hid (Kept w w5) := BX4.out.1
    clear k5 o5
    have HR4 : Hid _ := HR2.out _ _ _ _ _ EL.out O5.out
    have HR5 : Hid (∀ v9 w9, OwnB w5.heap.size w9 v9 (body t) → Kept w5 w9 → _) := fun v9 w9 o9 (k9 : Kept w5 w9) => HR3.out _ w9 v9 (KW8.out.trans' k9) k9.size o9
    go_wp2_with (first
      | (at_builtin; refine wpList_app rfl (.tmp 67) (.tmp 68) 22 22 rfl _ _ rfl rfl _ HR4.out ?_; rintro v9 w9 ⟨o9, k9⟩)
      | (at_builtin; refine wpList_app rfl (.tmp 69) (.tmp 70) 22 22 rfl _ _ rfl rfl _ (HR5.out _ _ o9 k9) ?_; rintro v10 w10 ⟨o10, s10⟩))
    refine Calls.mono (HD2.out _ _ _ o10) ?_
    rintro e w11 ⟨rfl, k11⟩
    have hz8 := KW8.out.size
    have K11 : Hid (Kept w w11) := ((Same.trans' KW8.out k9).trans s10 (fun i hi e => by omega)).trans' k11
    clear o9 k9 o10 s10 k11 hz8
    go_wp2_with fail
    go_ret
    exact ⟨rfl, K11.out.alloc _⟩
set_option maxRecDepth 100000 in
set_option maxHeartbeats 1600000 in
theorem cut_cn (w : World) (t : TxM) (a : Option Addr) (c : Nat) (cut : Int) (ob : Option Addr) (d : Nat) (m : List Int) (h : ArgT w t a c) (h2 : ArgB w ob d m) (hr : Right t) (hc : 0 ≤ cut ∧ cut < ((body t).length : Int)) (hm : m = []) :
    Calls Try.prog 7 #[txV t (.slice a t.ops.length c), .int .i64 cut, .slice ob m.length d] w fun e w' => e = .returned (.bool true) ∧ Kept w w' := by
  have hnot : ∀ (x : Bool) (w : World), (Op.unary .not (.bool x)).run Try.prog w = .ok (.bool (!x)) w := fun _ _ => rfl
  have HA : Hid (∀ W, _) := fun W => anchor_any W
  have HC : Hid (∀ W, Kept w W → _) := fun W (k : Kept w W) => copy_any W t a c (h.on k)
  have HV : Hid (∀ W, Kept w W → _) := fun W (k : Kept w W) => validR_any W t _ (h.on k).txa
  have HE : Hid (∀ W v, TxA W t v → _) := fun W v (q : TxA W t v) => encode_ok W t v q hr
  rw [valid_zero.2 hr] at HV
  have hle2 := h2.le
  obtain ⟨l1, l2⟩ := body_len hr
  obtain ⟨k, ek⟩ : ∃ k : Nat, k = cut.toNat := ⟨_, rfl⟩
  obtain rfl : cut = (k : Int) := by omega
  obtain ⟨z, hz, hdc⟩ := dec_cut hr (c := k) (by omega)
  have HD : Hid (∀ base W v, OwnB base W v ((body t).take k) → _) := fun base W v (o : OwnB base W v ((body t).take k)) => decode_own_no o ((byts_body t).take k) (by rw [List.length_take]; omega) hdc
  have HSL : Hid (∀ W a n c base, n = (body t).length → OwnB base W (.slice a n c) (body t) → ∃ a', (∀ W', (Instr.sliceAt 22 (.slice a n c) none (some (.int .i64 (k : Int))) none).run Try.prog W' = .ok (.slice a' ((body t).take k).length c) W') ∧ BytesAt W a' ((body t).take k) ∧ (a' = none → ((body t).take k).length = 0 ∧ c = 0)) := fun W a n c base e o => by
    have := slice_pre (OwnB.arg e o (byts_body t) l1) k (by omega)
    rwa [← e] at this
  have HAP : Hid (∀ W a c, BytesAt W a ((body t).take k) → (a = none → ((body t).take k).length = 0 ∧ c = 0) → _) := fun W a c hb hn => app_lit (w := W) (c := c) hb hn (by rw [List.length_take]; omega)
  have HS : Hid (∀ W, _) := fun W => sameT W t0 (txV t0 (.slice none 0 0)) (txV t0 (.slice none 0 0)) ⟨none, 0, rfl, OpsAt.nil _ _⟩ ⟨none, 0, rfl, OpsAt.nil _ _⟩ (by decide)
  rw [show txV t0 (.slice none 0 0) = .agg #[.int .i64 0, .int .i64 0, .int .i64 0, .int .i64 0, .int .i64 0, .int .i64 0, .int .i64 0, .slice none 0 0] from rfl] at HD HS
  generalize ((body t).take k).length = np at HSL HAP
  have hm0 : m.length = 0 := by rw [hm]; rfl
  obtain ⟨n, en⟩ : ∃ n, n = t.ops.length := ⟨_, rfl⟩
  have EN : Hid _ := en
  obtain ⟨M, eM⟩ : ∃ M, M = m.length := ⟨_, rfl⟩
  rw [← en] at HC HV ⊢
  rw [← eM] at hm0 ⊢
  obtain ⟨L, eL⟩ : ∃ L, L = (body t).length := ⟨_, rfl⟩
  have EL : Hid _ := eL
  rw [← eL] at hc l1 l2
  have dM : ((M : Int) == 0) = true := by rw [hm0]; rfl
  have q1 : decide (0 ≤ (k : Int)) = true := decide_eq_true (by omega)
  have q2 : decide ((k : Int) < (L : Int)) = true := decide_eq_true (by omega)
  have q2' : (k : Int) < (L : Int) := by omega
  have q3 : decide ((z : Int) < 0) = false := decide_eq_false (by omega)
  have q3' : ¬ (z : Int) < 0 := by omega
  have q4 : decide ((k : Int) < (z : Int)) = false := decide_eq_false (by omega)
  have q4' : ¬ (k : Int) < (z : Int) := by omega
  clear h h2 hr en eM eL hle2 hdc ek hz hm0 hm
  unfold txV at HC HV ⊢
  have BX0 : Hid _ := Bx.start w t a n c
  go_enter Try.func7, Try.ntmps7
  go_wp2_with fail
  refine Calls.mono (HA.out _) ?_
  rintro e w1 ⟨rfl, k1⟩
  have BX1 : Hid _ := Bx.on BX0.out k1
  obtain ⟨⟨m0, m1, m2, m3, m4, m5, m6, m7⟩, -⟩ := tx_obj BX1.out.2
  clear k1
  go_wp2_with fail
  refine Calls.mono (HV.out _ BX1.out.1) ?_
  rintro e w3 ⟨rfl, k3⟩
  have BX2 : Hid _ := Bx.on BX1.out k3
  clear m0 m1 m2 m3 m4 m5 m6 m7
  obtain ⟨⟨m0, m1, m2, m3, m4, m5, m6, m7⟩, -⟩ := tx_obj BX2.out.2
  clear k3
  go_wp2_with fail
  refine Calls.mono (HC.out _ BX2.out.1) ?_
  rintro e w4 ⟨a4, c4, rfl, oo, kk⟩
  have BX3 : Hid _ := Bx.on BX2.out kk
  clear m0 m1 m2 m3 m4 m5 m6 m7
  obtain ⟨⟨m0, m1, m2, m3, m4, m5, m6, m7⟩, -⟩ := tx_obj BX3.out.2
  have TX3 : Hid _ := OwnO.txan EN.out oo
  clear oo kk
  go_wp2_with fail
  refine Calls.mono (HE.out _ _ TX3.out) ?_
  rintro e w5 ⟨v5, rfl, o5, k5⟩
  have BX4 : Hid _ := Bx.on BX3.out k5
  clear m0 m1 m2 m3 m4 m5 m6 m7
  obtain ⟨a5, c5, rfl, -⟩ := OwnB.bytes o5
  rw [← EL.out] at o5 ⊢
  have O5 : Hid _ := o5
  obtain ⟨a', hsl, hb', hn'⟩ := HSL.out _ _ _ _ _ EL.out O5.out
  have HAP2 : Hid _ := HAP.out _ a' c5 hb' hn'
  clear k5 o5 hb' hn'
  go_wp2_with (at_builtin; refine wpList_app rfl (.tmp 37) (.tmp 40) 22 22 rfl _ _ rfl rfl _ HAP2.out ?_; rintro v6 w6 ⟨o6, k6⟩)
  refine Calls.mono (HD.out _ _ _ o6) ?_
  rintro e w7 ⟨rfl, k7⟩
  have K7 : Hid (Kept w5 w7) := Same.trans' k6 k7
  clear o6 k6 k7
  go_wp2_with fail
  refine Calls.mono (HS.out _) ?_
  rintro e w8 ⟨rfl, k8⟩
  have K8 : Hid (Kept w5 w8) := (K7.out.alloc _).trans' k8
  have KW8 : Hid (Kept w w8) := Same.trans' BX4.out.1 K8.out
  have O8 : Hid _ := OwnB.kept O5.out K8.out (fun _ _ h => h)
  clear k8
  go_wp2_with fail
  go_ret
  exact ⟨rfl, KW8.out⟩
set_option maxRecDepth 100000 in
set_option maxHeartbeats 1600000 in
theorem cut_ct (w : World) (t : TxM) (a : Option Addr) (c : Nat) (cut : Int) (ob : Option Addr) (d : Nat) (m : List Int) (h : ArgT w t a c) (h2 : ArgB w ob d m) (hr : Right t) (hc : 0 ≤ cut ∧ cut < ((body t).length : Int)) (hm : m ≠ []) :
    Calls Try.prog 7 #[txV t (.slice a t.ops.length c), .int .i64 cut, .slice ob m.length d] w fun e w' => e = .returned (.bool true) ∧ Kept w w' := by
  have hnot : ∀ (x : Bool) (w : World), (Op.unary .not (.bool x)).run Try.prog w = .ok (.bool (!x)) w := fun _ _ => rfl
  have HA : Hid (∀ W, _) := fun W => anchor_any W
  have HC : Hid (∀ W, Kept w W → _) := fun W (k : Kept w W) => copy_any W t a c (h.on k)
  have HV : Hid (∀ W, Kept w W → _) := fun W (k : Kept w W) => validR_any W t _ (h.on k).txa
  have HE : Hid (∀ W v, TxA W t v → _) := fun W v (q : TxA W t v) => encode_ok W t v q hr
  rw [valid_zero.2 hr] at HV
  have hle2 := h2.le
  obtain ⟨l1, l2⟩ := body_len hr
  obtain ⟨k, ek⟩ : ∃ k : Nat, k = cut.toNat := ⟨_, rfl⟩
  obtain rfl : cut = (k : Int) := by omega
  obtain ⟨z, hz, hdc⟩ := dec_cut hr (c := k) (by omega)
  have HD : Hid (∀ base W v, OwnB base W v ((body t).take k) → _) := fun base W v (o : OwnB base W v ((body t).take k)) => decode_own_no o ((byts_body t).take k) (by rw [List.length_take]; omega) hdc
  have HSL : Hid (∀ W a n c base, n = (body t).length → OwnB base W (.slice a n c) (body t) → ∃ a', (∀ W', (Instr.sliceAt 22 (.slice a n c) none (some (.int .i64 (k : Int))) none).run Try.prog W' = .ok (.slice a' ((body t).take k).length c) W') ∧ BytesAt W a' ((body t).take k) ∧ (a' = none → ((body t).take k).length = 0 ∧ c = 0)) := fun W a n c base e o => by
    have := slice_pre (OwnB.arg e o (byts_body t) l1) k (by omega)
    rwa [← e] at this
  have HAP : Hid (∀ W a c, BytesAt W a ((body t).take k) → (a = none → ((body t).take k).length = 0 ∧ c = 0) → _) := fun W a c hb hn => app_lit (w := W) (c := c) hb hn (by rw [List.length_take]; omega)
  have HS : Hid (∀ W, _) := fun W => sameT W t0 (txV t0 (.slice none 0 0)) (txV t0 (.slice none 0 0)) ⟨none, 0, rfl, OpsAt.nil _ _⟩ ⟨none, 0, rfl, OpsAt.nil _ _⟩ (by decide)
  rw [show txV t0 (.slice none 0 0) = .agg #[.int .i64 0, .int .i64 0, .int .i64 0, .int .i64 0, .int .i64 0, .int .i64 0, .int .i64 0, .slice none 0 0] from rfl] at HD HS
  generalize ((body t).take k).length = np at HSL HAP
  have HD2 : Hid (∀ base W v, OwnB base W v (body t ++ m) → _) := fun base W v (o : OwnB base W v (body t ++ m)) => decode_own_no o ((byts_body t).append h2.byts) (by rw [List.length_append]; omega) (dec_tail hr hm)
  have HR2 : Hid (∀ base W a n c, n = (body t).length → OwnB base W (.slice a n c) (body t) → ∀ ty, ∃ v' w', (Builtin.append_ #[22, 22] ty #[.slice (some ⟨W.heap.size, 0, none⟩) 0 0, .slice a n c]).run Try.prog (W.alloc (.cells #[] 5)) = .ok v' w' ∧ OwnB W.heap.size w' v' (body t) ∧ Kept W w') := fun base W a n c e o => by
    have q := OwnB.arg e o (byts_body t) l1
    subst e
    exact app_lit (c := c) q.data q.nil (by have := q.le; omega)
  have HR3 : Hid (∀ base W v, Kept w W → base ≤ W.heap.size → OwnB base W v (body t) → _) := fun base W v (k : Kept w W) hb (o : OwnB base W v (body t)) => app_bytes (c := d) o (h2.on k).data h2.nil (by omega) hb
  rw [show txV t0 (.slice none 0 0) = .agg #[.int .i64 0, .int .i64 0, .int .i64 0, .int .i64 0, .int .i64 0, .int .i64 0, .int .i64 0, .slice none 0 0] from rfl] at HD2
  have hmp : 0 < m.length := List.length_pos_iff.2 hm
  obtain ⟨n, en⟩ : ∃ n, n = t.ops.length := ⟨_, rfl⟩
  have EN : Hid _ := en
  obtain ⟨M, eM⟩ : ∃ M, M = m.length := ⟨_, rfl⟩
  rw [← en] at HC HV ⊢
  rw [← eM] at HR3 hmp ⊢
  obtain ⟨L, eL⟩ : ∃ L, L = (body t).length := ⟨_, rfl⟩
  have EL : Hid _ := eL
  rw [← eL] at HD2
  rw [← eL] at hc l1 l2
  have dM : ((M : Int) == 0) = false := by rw [beq_eq_false_iff_ne]; omega
  have dL : ((L : Int) == (L : Int)) = true := by simp
  have q1 : decide (0 ≤ (k : Int)) = true := decide_eq_true (by omega)
  have q2 : decide ((k : Int) < (L : Int)) = true := decide_eq_true (by omega)
  have q2' : (k : Int) < (L : Int) := by omega
  have q3 : decide ((z : Int) < 0) = false := decide_eq_false (by omega)
  have q3' : ¬ (z : Int) < 0 := by omega
  have q4 : decide ((k : Int) < (z : Int)) = false := decide_eq_false (by omega)
  have q4' : ¬ (k : Int) < (z : Int) := by omega
  clear h h2 hr en eM eL hle2 hdc ek hz hmp hm
  unfold txV at HC HV ⊢
  have BX0 : Hid _ := Bx.start w t a n c
  go_enter Try.func7, Try.ntmps7
  go_wp2_with fail
  refine Calls.mono (HA.out _) ?_
  rintro e w1 ⟨rfl, k1⟩
  have BX1 : Hid _ := Bx.on BX0.out k1
  obtain ⟨⟨m0, m1, m2, m3, m4, m5, m6, m7⟩, -⟩ := tx_obj BX1.out.2
  clear k1
  go_wp2_with fail
  refine Calls.mono (HV.out _ BX1.out.1) ?_
  rintro e w3 ⟨rfl, k3⟩
  have BX2 : Hid _ := Bx.on BX1.out k3
  clear m0 m1 m2 m3 m4 m5 m6 m7
  obtain ⟨⟨m0, m1, m2, m3, m4, m5, m6, m7⟩, -⟩ := tx_obj BX2.out.2
  clear k3
  go_wp2_with fail
  refine Calls.mono (HC.out _ BX2.out.1) ?_
  rintro e w4 ⟨a4, c4, rfl, oo, kk⟩
  have BX3 : Hid _ := Bx.on BX2.out kk
  clear m0 m1 m2 m3 m4 m5 m6 m7
  obtain ⟨⟨m0, m1, m2, m3, m4, m5, m6, m7⟩, -⟩ := tx_obj BX3.out.2
  have TX3 : Hid _ := OwnO.txan EN.out oo
  clear oo kk
  go_wp2_with fail
  refine Calls.mono (HE.out _ _ TX3.out) ?_
  rintro e w5 ⟨v5, rfl, o5, k5⟩
  have BX4 : Hid _ := Bx.on BX3.out k5
  clear m0 m1 m2 m3 m4 m5 m6 m7
  obtain ⟨a5, c5, rfl, -⟩ := OwnB.bytes o5
  rw [← EL.out] at o5 ⊢
  have O5 : Hid _ := o5
  obtain ⟨a', hsl, hb', hn'⟩ := HSL.out _ _ _ _ _ EL.out O5.out
  have HAP2 : Hid _ := HAP.out _ a' c5 hb' hn'
  clear k5 o5 hb' hn'
  go_wp2_with (at_builtin; refine wpList_app rfl (.tmp 37) (.tmp 40) 22 22 rfl _ _ rfl rfl _ HAP2.out ?_; rintro v6 w6 ⟨o6, k6⟩)
  refine Calls.mono (HD.out _ _ _ o6) ?_
  rintro e w7 ⟨rfl, k7⟩
  have K7 : Hid (Kept w5 w7) := Same.trans' k6 k7
  clear o6 k6 k7
  go_wp2_with fail
  refine Calls.mono (HS.out _) ?_
  rintro e w8 ⟨rfl, k8⟩
  have K8 : Hid (Kept w5 w8) := (K7.out.alloc _).trans' k8
  have KW8 : Hid (Kept w w8) := Same.trans' BX4.out.1 K8.out
  have O8 : Hid _ := OwnB.kept O5.out K8.out (fun _ _ h => h)
  clear k8
  have HR4 : Hid _ := HR2.out _ _ _ _ _ EL.out O8.out
  have HR5 : Hid (∀ v9 w9, OwnB w8.heap.size w9 v9 (body t) → Kept w8 w9 → _) := fun v9 w9 o9 (k9 : Kept w8 w9) => HR3.out _ w9 v9 (KW8.out.trans' k9) k9.size o9
  go_wp2_with (first
    | (at_builtin; refine wpList_app rfl (.tmp 67) (.tmp 68) 22 22 rfl _ _ rfl rfl _ HR4.out ?_; rintro v9 w9 ⟨o9, k9⟩)
    | (at_builtin; refine wpList_app rfl (.tmp 69) (.tmp 70) 22 22 rfl _ _ rfl rfl _ (HR5.out _ _ o9 k9) ?_; rintro v10 w10 ⟨o10, s10⟩))
  refine Calls.mono (HD2.out _ _ _ o10) ?_
  rintro e w11 ⟨rfl, k11⟩
  have hz8 := KW8.out.size
  have K11 : Hid (Kept w w11) := ((Same.trans' KW8.out k9).trans s10 (fun i hi e => by omega)).trans' k11
  clear o9 k9 o10 s10 k11 hz8
  go_wp2_with fail
  go_ret
  exact ⟨rfl, K11.out.alloc _⟩
end Go.Proofs.Ytcmoejnljhmflaa
