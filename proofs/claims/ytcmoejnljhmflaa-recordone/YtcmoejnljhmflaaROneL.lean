/- What is proved: RecordOne answers true for every list of bytes. -/
import Derived.Test.YtcmoejnljhmflaaRArg
namespace Go.Proofs.Ytcmoejnljhmflaa
open Go.RowKit

set_option maxRecDepth 100000 in
set_option maxHeartbeats 1600000 in
theorem rone_err (w : World) (oa : Option Addr) (c : Nat) (l : List Int) (h : ArgB w oa c l) {p : Nat} {z : Int} (he : decode l = .error (p, z)) :
    Calls Try.prog 6 #[.slice oa l.length c] w fun e w' => e = .returned (.bool true) ∧ Kept w w' := by
  have hnot : ∀ (x : Bool) (w : World), (Op.unary .not (.bool x)).run Try.prog w = .ok (.bool (!x)) w := fun _ _ => rfl
  have hle := h.le
  have HA : Hid _ := anchor_any w
  have HR : Hid (∀ W, Kept w W → _) := fun W (k : Kept w W) => app_lit (c := c) (h.on k).data h.nil (by omega)
  have HD : Hid (∀ base W v, OwnB base W v l → _) := fun base W v (o : OwnB base W v l) => decode_own_no o h.byts (by omega) he
  obtain ⟨hp, hz⟩ := dec_fits h.byts he
  have HS : Hid (∀ W, _) := fun W => sameT W t0 (txV t0 (.slice none 0 0)) (txV t0 (.slice none 0 0)) ⟨none, 0, rfl, OpsAt.nil _ _⟩ ⟨none, 0, rfl, OpsAt.nil _ _⟩ (by decide)
  have hz' : (z != 0) = true := by simpa using hz
  obtain ⟨n, en⟩ : ∃ n, n = l.length := ⟨_, rfl⟩
  rw [← en] at HR hp hle ⊢
  have d1 : decide (0 ≤ (p : Int)) = true := decide_eq_true (by omega)
  have d2 : decide ((p : Int) ≤ (n : Int)) = true := decide_eq_true (by omega)
  have d2' : (p : Int) ≤ (n : Int) := by omega
  rw [show txV t0 (.slice none 0 0) = .agg #[.int .i64 0, .int .i64 0, .int .i64 0, .int .i64 0, .int .i64 0, .int .i64 0, .int .i64 0, .slice none 0 0] from rfl] at HD HS
  clear h en hz he
  go_enter Try.func6, Try.ntmps6
  go_wp2_with fail
  refine Calls.mono HA.out ?_
  rintro e w1 ⟨rfl, k1⟩
  have K1 : Hid _ := k1
  clear k1
  go_wp2_with (at_builtin; refine wpList_app rfl (.tmp 11) (.tmp 12) 22 22 rfl _ _ rfl rfl _ (HR.out _ K1.out) ?_; rintro v2 w2 ⟨o2, k2⟩)
  refine Calls.mono (HD.out _ _ _ o2) ?_
  rintro e w3 ⟨rfl, k3⟩
  have K3 : Hid (Kept w w3) := (Same.trans' K1.out k2).trans' k3
  clear o2 k2 k3
  go_wp2_with fail
  refine Calls.mono (HS.out _) ?_
  rintro e w4 ⟨rfl, k4⟩
  have K4 : Hid (Kept w w4) := (K3.out.alloc _).trans' k4
  clear k4
  go_wp2_with fail
  go_ret
  exact ⟨rfl, K4.out⟩
set_option maxRecDepth 100000 in
set_option maxHeartbeats 1600000 in
theorem rone_ok (w : World) (oa : Option Addr) (c : Nat) (l : List Int) (h : ArgB w oa c l) {t : TxM} (he : decode l = .ok t) :
    Calls Try.prog 6 #[.slice oa l.length c] w fun e w' => e = .returned (.bool true) ∧ Kept w w' := by
  have hnot : ∀ (x : Bool) (w : World), (Op.unary .not (.bool x)).run Try.prog w = .ok (.bool (!x)) w := fun _ _ => rfl
  have hle := h.le
  have HA : Hid _ := anchor_any w
  have HR : Hid (∀ W, Kept w W → _) := fun W (k : Kept w W) => app_lit (c := c) (h.on k).data h.nil (by omega)
  have HD : Hid (∀ base W v, OwnB base W v l → _) := fun base W v (o : OwnB base W v l) => decode_own_ok o h.byts (by omega) he
  obtain ⟨hr, hbd⟩ := dec_ok h.byts he
  have HE : Hid (∀ W v, TxA W t v → _) := fun W v (q : TxA W t v) => encode_ok W t v q hr
  have HV : Hid (∀ W v, TxA W t v → _) := fun W v (q : TxA W t v) => valid_any W t v q
  have HZ : Hid (∀ W v, TxA W t v → _) := fun W v (q : TxA W t v) => size_ok W t v q hr
  rw [valid_zero.2 hr] at HV
  rw [hbd] at HE HZ
  have HSM : Hid (∀ W a ca cb, Kept w W → BytesAt W a l → _) := fun W a ca cb (k : Kept w W) ha => same_true W a oa ca cb l ha (h.on k).data (by omega)
  obtain ⟨n, en⟩ : ∃ n, n = l.length := ⟨_, rfl⟩
  have EN : Hid _ := en
  rw [← en] at HR HZ HSM hle ⊢
  have hnn : ((n : Int) == (n : Int)) = true := by simp
  clear h en he hr hbd
  unfold txV at HD
  go_enter Try.func6, Try.ntmps6
  go_wp2_with fail
  refine Calls.mono HA.out ?_
  rintro e w1 ⟨rfl, k1⟩
  have K1 : Hid _ := k1
  clear k1
  go_wp2_with (at_builtin; refine wpList_app rfl (.tmp 11) (.tmp 12) 22 22 rfl _ _ rfl rfl _ (HR.out _ K1.out) ?_; rintro v2 w2 ⟨o2, k2⟩)
  refine Calls.mono (HD.out _ _ _ o2) ?_
  rintro e w3 ⟨a3, c3, rfl, o3, k3⟩
  have K3 : Hid (Kept w w3) := (Same.trans' K1.out k2).trans' k3
  have T3 : Hid (TxA w3 t (txV t (.slice a3 t.ops.length c3))) := OwnO.txa o3
  unfold txV at T3
  clear o2 k2 k3 o3
  go_wp2_with fail
  refine Calls.mono (HE.out _ _ (TxA.on T3.out ((Same.refl _ _).alloc _))) ?_
  rintro e w4 ⟨v4, rfl, o4, k4⟩
  obtain ⟨a4, c4, rfl, b4, -, -, -, -⟩ := OwnB.bytes o4
  have x4 := (k4.block _ (by rw [World.size_alloc]; exact Nat.lt_succ_self _) (fun h => h)).trans (heap_new w3 _)
  obtain ⟨⟨m0, m1, m2, m3, m4, m5, m6, m7⟩, -⟩ := tx_obj x4
  have K4 : Hid (Kept w w4) := (K3.out.alloc _).trans' k4
  have T4 : Hid _ := TxA.on T3.out (((Same.refl _ _).alloc _).trans' k4)
  have HS4 : Hid _ := HSM.out _ a4 c4 c K4.out b4
  have X4 : Hid _ := x4
  rw [← EN.out]
  clear k4 o4 b4 x4
  go_wp2_with fail
  refine Calls.mono HS4.out ?_
  rintro e w5 ⟨rfl, rfl⟩
  go_wp2_with fail
  refine Calls.mono (HV.out _ _ T4.out) ?_
  rintro e w6 ⟨rfl, k6⟩
  have x6 := (k6.block _ (lt_of_heap X4.out) (fun h => h)).trans X4.out
  clear m0 m1 m2 m3 m4 m5 m6 m7
  obtain ⟨⟨m0, m1, m2, m3, m4, m5, m6, m7⟩, -⟩ := tx_obj x6
  have K6 : Hid (Kept w w6) := Same.trans' K4.out k6
  have T6 : Hid _ := TxA.on T4.out k6
  clear k6 x6
  go_wp2_with fail
  refine Calls.mono (HZ.out _ _ T6.out) ?_
  rintro e w7 ⟨rfl, k7⟩
  have K7 : Hid (Kept w w7) := Same.trans' K6.out k7
  clear k7
  go_wp2_with fail
  go_ret
  exact ⟨rfl, K7.out⟩
end Go.Proofs.Ytcmoejnljhmflaa
