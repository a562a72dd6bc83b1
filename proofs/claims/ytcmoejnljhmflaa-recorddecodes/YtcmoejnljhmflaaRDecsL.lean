/- What is proved: RecordDecodes answers true for every list of bytes. -/
import Derived.Test.YtcmoejnljhmflaaRRDec
namespace Go.Proofs.Ytcmoejnljhmflaa
open Go.RowKit

set_option maxRecDepth 100000 in
set_option maxHeartbeats 1600000 in
theorem decs_err (w : World) (oa : Option Addr) (c : Nat) (l : List Int) (h : ArgB w oa c l) {p : Nat} {z : Int} (he : decode l = .error (p, z)) :
    Calls Try.prog 3 #[.slice oa l.length c] w fun e w' => e = .returned (.bool true) ∧ Kept w w' := by
  have hnot : ∀ (x : Bool) (w : World), (Op.unary .not (.bool x)).run Try.prog w = .ok (.bool (!x)) w := fun _ _ => rfl
  have hle := h.le
  have HA : Hid _ := anchor_any w
  have HR : Hid (∀ W, Kept w W → _) := fun W (k : Kept w W) => app_lit (c := c) (h.on k).data h.nil (by omega)
  have HD : Hid (∀ base W v, OwnB base W v l → _) := fun base W v (o : OwnB base W v l) => decode_own_no o h.byts (by omega) he
  have HRD : Hid (∀ W, Kept w W → Calls Try.prog 11 #[.slice oa l.length c] W fun e w' => e = .returned (.tuple #[txV t0 (.slice none 0 0), .int .i64 (p : Int), .int .i64 z]) ∧ Kept W w') := fun W (k : Kept w W) => by
    refine Calls.mono (refDec_any W oa c l (h.on k)) ?_
    rintro e w' ⟨k', m⟩
    rw [he] at m
    exact ⟨m, k'⟩
  have HS : Hid (∀ W, _) := fun W => sameT W t0 (txV t0 (.slice none 0 0)) (txV t0 (.slice none 0 0)) ⟨none, 0, rfl, OpsAt.nil _ _⟩ ⟨none, 0, rfl, OpsAt.nil _ _⟩ (by decide)
  obtain ⟨n, en⟩ : ∃ n, n = l.length := ⟨_, rfl⟩
  rw [← en] at HR HRD ⊢
  have hzz : (z == z) = true := by simp
  have hpp : ((p : Int) == (p : Int)) = true := by simp
  rw [show txV t0 (.slice none 0 0) = .agg #[.int .i64 0, .int .i64 0, .int .i64 0, .int .i64 0, .int .i64 0, .int .i64 0, .int .i64 0, .slice none 0 0] from rfl] at HD HS HRD
  clear h en he hle
  go_enter Try.func3, Try.ntmps3
  go_wp2_with fail
  refine Calls.mono HA.out ?_
  rintro e w1 ⟨rfl, k1⟩
  have K1 : Hid _ := k1
  clear k1
  go_wp2_with (at_builtin; refine wpList_app rfl (.tmp 12) (.tmp 13) 22 22 rfl _ _ rfl rfl _ (HR.out _ K1.out) ?_; rintro v2 w2 ⟨o2, k2⟩)
  refine Calls.mono (HD.out _ _ _ o2) ?_
  rintro e w3 ⟨rfl, k3⟩
  have K3 : Hid (Kept w w3) := (Same.trans' K1.out k2).trans' k3
  clear o2 k2 k3
  go_wp2_with fail
  refine Calls.mono (HRD.out _ (K3.out.alloc _)) ?_
  rintro e w4 ⟨rfl, k4⟩
  have x4 := (k4.block _ (by rw [World.size_alloc]; exact Nat.lt_succ_self _) (fun h => h)).trans (heap_new w3 _)
  obtain ⟨⟨m0, m1, m2, m3, m4, m5, m6, m7⟩, -⟩ := tx_obj x4
  have hlt := lt_of_heap x4
  have K4 : Hid (Kept w w4) := (K3.out.alloc _).trans' k4
  clear k4 x4
  go_wp2_with fail
  refine Calls.mono (HS.out _) ?_
  rintro e w5 ⟨rfl, k5⟩
  have K5 : Hid (Kept w w5) := (K4.out.alloc _).trans' k5
  clear k5
  go_wp2_with fail
  go_ret
  exact ⟨rfl, K5.out⟩
set_option maxRecDepth 100000 in
set_option maxHeartbeats 1600000 in
theorem decs_ok (w : World) (oa : Option Addr) (c : Nat) (l : List Int) (h : ArgB w oa c l) {t : TxM} (he : decode l = .ok t) :
    Calls Try.prog 3 #[.slice oa l.length c] w fun e w' => e = .returned (.bool true) ∧ Kept w w' := by
  have hnot : ∀ (x : Bool) (w : World), (Op.unary .not (.bool x)).run Try.prog w = .ok (.bool (!x)) w := fun _ _ => rfl
  have hle := h.le
  have HA : Hid _ := anchor_any w
  have HR : Hid (∀ W, Kept w W → _) := fun W (k : Kept w W) => app_lit (c := c) (h.on k).data h.nil (by omega)
  have HD : Hid (∀ base W v, OwnB base W v l → _) := fun base W v (o : OwnB base W v l) => decode_own_ok o h.byts (by omega) he
  have HRD : Hid (∀ W, Kept w W → Calls Try.prog 11 #[.slice oa l.length c] W fun e w' => ∃ a cap, e = .returned (.tuple #[txV t (.slice a t.ops.length cap), .int .i64 0, .int .i64 0]) ∧ OwnO W.heap.size w' (.slice a t.ops.length cap) t.ops ∧ Kept W w') := fun W (k : Kept w W) => by
    refine Calls.mono (refDec_any W oa c l (h.on k)) ?_
    rintro e w' ⟨k', m⟩
    rw [he] at m
    obtain ⟨v, rfl, o⟩ := m
    obtain ⟨a, cap, rfl, -⟩ := OwnO.ops o
    exact ⟨a, cap, rfl, o, k'⟩
  have hr := (dec_ok h.byts he).1
  have HS : Hid (∀ W va vb, TxA W t va → TxA W t vb → _) := fun W va vb ha hb => sameT W t va vb ha hb (by have := hr.2.1; omega)
  obtain ⟨n, en⟩ : ∃ n, n = l.length := ⟨_, rfl⟩
  rw [← en] at HR HRD ⊢
  clear h en he hle hr
  unfold txV at HD HRD
  go_enter Try.func3, Try.ntmps3
  go_wp2_with fail
  refine Calls.mono HA.out ?_
  rintro e w1 ⟨rfl, k1⟩
  have K1 : Hid _ := k1
  clear k1
  go_wp2_with (at_builtin; refine wpList_app rfl (.tmp 12) (.tmp 13) 22 22 rfl _ _ rfl rfl _ (HR.out _ K1.out) ?_; rintro v2 w2 ⟨o2, k2⟩)
  refine Calls.mono (HD.out _ _ _ o2) ?_
  rintro e w3 ⟨a3, c3, rfl, o3, k3⟩
  have K3 : Hid (Kept w w3) := (Same.trans' K1.out k2).trans' k3
  have T3 : Hid (TxA w3 t (txV t (.slice a3 t.ops.length c3))) := OwnO.txa o3
  clear o2 k2 k3 o3
  go_wp2_with fail
  refine Calls.mono (HRD.out _ (K3.out.alloc _)) ?_
  rintro e w4 ⟨a4, c4, rfl, o4, k4⟩
  have x4 := (k4.block _ (by rw [World.size_alloc]; exact Nat.lt_succ_self _) (fun h => h)).trans (heap_new w3 _)
  obtain ⟨⟨m0, m1, m2, m3, m4, m5, m6, m7⟩, -⟩ := tx_obj x4
  have hlt := lt_of_heap x4
  have K4 : Hid (Kept w w4) := (K3.out.alloc _).trans' k4
  have T4 : Hid (TxA w4 t (txV t (.slice a3 t.ops.length c3))) := TxA.on T3.out (((Same.refl _ _).alloc _).trans' k4)
  have U4 : Hid (TxA w4 t (txV t (.slice a4 t.ops.length c4))) := OwnO.txa o4
  clear k4 x4 o4
  go_wp2_with fail
  refine Calls.mono (HS.out _ _ _ (TxA.on T4.out ((Same.refl _ _).alloc _)) (TxA.on U4.out ((Same.refl _ _).alloc _))) ?_
  rintro e w5 ⟨rfl, k5⟩
  have K5 : Hid (Kept w w5) := (K4.out.alloc _).trans' k5
  clear k5
  go_wp2_with fail
  go_ret
  exact ⟨rfl, K5.out⟩
end Go.Proofs.Ytcmoejnljhmflaa
