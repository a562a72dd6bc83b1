/- What is proved: the law RulesRows answers true and leaves all that was there as it was; the transaction fits a machine's memory. -/
import Derived.Test.YtbjmdpfoeeadeaaJRrw
import Derived.Test.YtbjmdpfoeeadeaaJTk
namespace Go.Proofs.Ytbjmdpfoeeadeaa.Sw
open Go.RowKit

theorem plainf (k t s i f u : Int) (y : ByteArray) (w : World) : Calls Try.prog 16 #[.agg #[.int .i64 k, .int .i64 t, .int .i64 s, .int .i64 i, .int .i64 f, .int .i64 u, .string y]] w fun e w' => e = .returned (.agg #[.int .i64 k, .int .i64 t, .int .i64 s, .int .i64 i, .int .i64 f, .int .i64 u, .string y]) ∧ Kept w w' := Rw.plain_any ⟨k, t, s, i, f, u, y⟩ w
theorem neq_same (r : Rw.RwM) (w : World) : (binOp .neq 43 (Rw.rowV r) (Rw.rowV r)).run Try.prog w = .ok (.bool false) w := by
  unfold Rw.rowV
  go_simp
set_option maxRecDepth 100000 in
set_option maxHeartbeats 3200000 in
theorem rows_law (i : Int) (t : TxM) (a : Option Addr) (c : Nat) (w : World) (h : ArgT w t a c) :
    Calls Try.prog 4 #[.int .i64 i, txV t (.slice a t.ops.length c)] w fun e w' => e = .returned (.bool true) ∧ Kept w w' := by
  have HA : Hid (∀ W, _) := fun W => anchor17 W
  have HC : Hid (∀ W, Kept w W → _) := fun W k => copy_any W t a c (h.on k)
  have HR : Hid (∀ W, Kept w W → _) := fun W k => rrows17 i t a c W (fun W2 k2 => (h.on (k.trans' k2)).txa)
  have HS : Hid (∀ W base a' c', OwnO base W (.slice a' t.ops.length c') t.ops → _) := fun W base a' c' (ho : OwnO base W (.slice a' t.ops.length c') t.ops) => rows17 i t a' c' W (fun W2 k2 => OwnO.txa (OwnO.on ho k2))
  have HL : Hid ((lisR i t).length ≤ 3) := by
    show (lisR i t).length ≤ 3
    unfold lisR
    split
    · exact rwsR_len i t
    · simp
  have HRR : Hid (∀ r ∈ lisR i t, Rw.rightR r) := fun r hr => by
    unfold lisR at hr
    split at hr
    · rename_i h0
      exact rows_right (codR_zero h0).1 (codR_zero h0).2 hr
    · simp at hr
  generalize hco : codR i t = co at *
  generalize hli : lisR i t = li at *
  clear hco hli
  generalize hn : t.ops.length = n at *
  clear h hn
  unfold txV at HC HS HR ⊢
  go_enter Try.func4, Try.ntmps4
  go_wp2_with fail
  refine Calls.mono (HA.out _) ?_
  rintro e W1 ⟨rfl, k1⟩
  have hb : W1.heap[w.heap.size]? = some (txO t a n c) := (k1.block _ (by simp [World.size_alloc]) (fun e => e)).trans (heap_new _ _)
  have K1 : Hid (Kept w W1) := ((Same.refl _ w).alloc _).trans' k1
  obtain ⟨⟨p0, p1, p2, p3, p4, p5, p6, p7⟩, -⟩ := tx_obj hb
  have hl := lt_of_heap hb
  have HB : Hid (W1.heap[w.heap.size]? = some (txO t a n c)) := hb
  clear hb k1
  go_wp2_with fail
  refine Calls.mono (HC.out _ K1.out) ?_
  rintro e W2 ⟨a2, c2, rfl, o2, k2⟩
  have K2 : Hid (Kept w W2) := K1.out.trans' k2
  have HB2 : Hid (W2.heap[w.heap.size]? = some (txO t a n c)) := (k2.block _ (lt_of_heap HB.out) (fun e => e)).trans HB.out
  have O2 : Hid (OwnO W1.heap.size W2 (.slice a2 n c2) t.ops) := o2
  clear o2 k2 p0 p1 p2 p3 p4 p5 p6 p7 hl K1
  go_wp2_with fail
  refine Calls.mono (HS.out _ _ _ _ O2.out) ?_
  rintro e W3 ⟨v3, rfl, o3, k3⟩
  obtain ⟨a3, m3, c3, ev, em⟩ : ∃ a m c, v3 = .slice a m c ∧ m = li.length := by
    obtain ⟨a, c, ev, -⟩ := row_shape o3
    exact ⟨_, _, _, ev, rfl⟩
  subst ev
  have K3 : Hid (Kept w W3) := K2.out.trans' k3
  have hb : W3.heap[w.heap.size]? = some (txO t a n c) := (k3.block _ (lt_of_heap HB2.out) (fun e => e)).trans HB2.out
  have R3 : Hid (Rw.RowsAt W3 a3 li) := (own_rows o3).2
  obtain ⟨⟨p0, p1, p2, p3, p4, p5, p6, p7⟩, -⟩ := tx_obj hb
  have hl := lt_of_heap hb
  have EM : Hid (m3 = li.length) := em
  clear o3 k3 hb em
  go_wp2_with fail
  refine Calls.mono (HR.out _ K3.out) ?_
  rintro e W4 ⟨v4, rfl, o4, k4⟩
  obtain ⟨a4, m4, c4, ev, em⟩ : ∃ a m c, v4 = .slice a m c ∧ m = li.length := by
    obtain ⟨a, c, ev, -⟩ := row_shape o4
    exact ⟨_, _, _, ev, rfl⟩
  obtain rfl : m4 = m3 := em.trans EM.out.symm
  subst ev
  have R4 : Hid (Rw.RowsAt W4 a4 li) := (own_rows o4).2
  have K4 : Hid (Kept w W4) := K3.out.trans' k4
  have R3' : Hid (Rw.RowsAt W4 a3 li) := R3.out.on k4
  have hm3 : Hid (m4 ≤ 3) := by have h1 := HL.out; have h2 := EM.out; show m4 ≤ 3; omega
  clear o4 k4 em p0 p1 p2 p3 p4 p5 p6 p7 hl R3
  go_wp2_with fail
  go_loopw [38] (fun s38 wr => ∃ j : Nat, s38 = .int .i64 j ∧ j ≤ m4 ∧ Kept W4 wr) (fun s38 _ => m4 - (intOf s38).toNat)
  case atStart => exact ⟨0, rfl, Nat.zero_le _, Same.refl _ _⟩
  case round =>
    obtain ⟨j, rfl, hj, kj⟩ := hrel
    rename World => WL
    have KL : Hid (Kept W4 WL) := kj
    clear kj
    by_cases hlt : j < m4
    case neg =>
      obtain rfl : m4 = j := by omega
      have d1 : decide ((m4 : Int) < (m4 : Int)) = false := decide_eq_false (by omega)
      go_wp2_with fail
      go_ret
      exact ⟨rfl, K4.out.trans' KL.out⟩
    have d1 : decide ((j : Int) < (m4 : Int)) = true := decide_eq_true (by omega)
    have hlt2 : (j : Int) < (m4 : Int) := by omega
    have hws : IntKind.i64.wrap ((j : Int) + 1) = (j : Int) + 1 := by have h1 := hm3.out; rw [IntKind.wrap_i64] <;> omega
    obtain ⟨r, hr⟩ : ∃ r, li[j]? = some r := ⟨_, List.getElem?_eq_getElem (by rw [← show m4 = _ from EM.out]; exact hlt)⟩
    have HRJ : Hid (li[j]? = some r) := hr
    have hrr := HRR.out r (List.mem_of_getElem? hr)
    obtain ⟨lb, lo, ea, hlb, q0, q1, q2, q3, q4, q5, q6⟩ := (R3'.out.on KL.out) j r hr
    subst ea
    obtain ⟨mb, mo, ea, hmb, -⟩ := R4.out j r hr
    subst ea
    have NQ : Hid (∀ W, _) := fun W => neq_same r W
    have VL : Hid (∀ W, _) := fun W => Rw.valid9_any r W
    rw [decide_eq_true hrr] at VL
    have HMB : Hid (∀ W', Kept W4 W' → _) := fun W' (k' : Kept W4 W') => (R4.out.on k') j r hr
    clear hr hrr
    go_upto_region 10 with fail
    have GB : Hid (_ = some (rwO r 42)) := heap_new WL (rwO r 42)
    have KG : Hid (Kept W4 (WL.alloc (rwO r 42))) := KL.out.alloc _
    generalize WL.alloc (rwO r 42) = W6 at *
    generalize hgg : WL.heap.size = g6 at *
    clear q0 q1 q2 q3 q4 q5 q6 hlb hgg
    obtain ⟨rkind, rtime, rseq, rindex, rfrm, rtil, rbody⟩ := r
    unfold Rw.rowV at NQ VL
    simp only at NQ VL
    have HBX : Hid (∀ W', Kept W6 W' → Kept W6 W' ∧ (W'.cell? ⟨g6, 0, none⟩ = some (.int .i64 rkind) ∧ W'.cell? ⟨g6, 1, none⟩ = some (.int .i64 rtime) ∧ W'.cell? ⟨g6, 2, none⟩ = some (.int .i64 rseq) ∧ W'.cell? ⟨g6, 3, none⟩ = some (.int .i64 rindex) ∧ W'.cell? ⟨g6, 4, none⟩ = some (.int .i64 rfrm) ∧ W'.cell? ⟨g6, 5, none⟩ = some (.int .i64 rtil) ∧ W'.cell? ⟨g6, 6, none⟩ = some (.string rbody)) ∧ (W'.cell? ⟨mb, mo + j * 7, none⟩ = some (.int .i64 rkind) ∧ W'.cell? ⟨mb, mo + j * 7 + 1, none⟩ = some (.int .i64 rtime) ∧ W'.cell? ⟨mb, mo + j * 7 + 2, none⟩ = some (.int .i64 rseq) ∧ W'.cell? ⟨mb, mo + j * 7 + 3, none⟩ = some (.int .i64 rindex) ∧ W'.cell? ⟨mb, mo + j * 7 + 4, none⟩ = some (.int .i64 rfrm) ∧ W'.cell? ⟨mb, mo + j * 7 + 5, none⟩ = some (.int .i64 rtil) ∧ W'.cell? ⟨mb, mo + j * 7 + 6, none⟩ = some (.string rbody))) := fun W' k' => ⟨k', row7 ((k'.block _ (lt_of_heap GB.out) (fun e => e)).trans GB.out), by
      obtain ⟨b, o, e, -, x0, x1, x2, x3, x4, x5, x6⟩ := HMB.out W' (KG.out.trans' k')
      cases e
      exact ⟨x0, x1, x2, x3, x4, x5, x6⟩⟩
    have PL6 : Hid (∀ W, Kept W6 W → Calls _ _ _ _ fun e w' => _ ∧ Kept W6 w') := fun W (kw : Kept W6 W) => Calls.mono (plainf rkind rtime rseq rindex rfrm rtil rbody W) (fun e w' hh => ⟨hh.1, kw.trans' hh.2⟩)
    have VL6 : Hid (∀ W, Kept W6 W → Calls _ _ _ _ fun e w' => e = .returned (.bool true) ∧ Kept W6 w') := fun W (kw : Kept W6 W) => Calls.mono (VL.out W) (fun e w' hh => ⟨hh.1, kw.trans' hh.2⟩)
    have nq : ∀ W, (binOp .neq 43 (.agg #[.int .i64 rkind, .int .i64 rtime, .int .i64 rseq, .int .i64 rindex, .int .i64 rfrm, .int .i64 rtil, .string rbody]) (.agg #[.int .i64 rkind, .int .i64 rtime, .int .i64 rseq, .int .i64 rindex, .int .i64 rfrm, .int .i64 rtil, .string rbody])).run Try.prog W = .ok (.bool false) W := NQ.out
    have hg6 := lt_of_heap GB.out
    have hmb6 : mb < W6.heap.size := Nat.lt_of_lt_of_le hmb KG.out.size
    obtain ⟨-, ⟨x0, x1, x2, x3, x4, x5, x6⟩, ⟨y0, y1, y2, y3, y4, y5, y6⟩⟩ := HBX.out W6 (Same.refl _ _)
    go_cut [54] (fun s54 wx => s54 = .bool false ∧ Kept W6 wx)
    case first =>
      go_region_held3 (fun w' => Kept W6 w' ∧ (w'.cell? ⟨g6, 0, none⟩ = some (.int .i64 rkind) ∧ w'.cell? ⟨g6, 1, none⟩ = some (.int .i64 rtime) ∧ w'.cell? ⟨g6, 2, none⟩ = some (.int .i64 rseq) ∧ w'.cell? ⟨g6, 3, none⟩ = some (.int .i64 rindex) ∧ w'.cell? ⟨g6, 4, none⟩ = some (.int .i64 rfrm) ∧ w'.cell? ⟨g6, 5, none⟩ = some (.int .i64 rtil) ∧ w'.cell? ⟨g6, 6, none⟩ = some (.string rbody)) ∧ (w'.cell? ⟨mb, mo + j * 7, none⟩ = some (.int .i64 rkind) ∧ w'.cell? ⟨mb, mo + j * 7 + 1, none⟩ = some (.int .i64 rtime) ∧ w'.cell? ⟨mb, mo + j * 7 + 2, none⟩ = some (.int .i64 rseq) ∧ w'.cell? ⟨mb, mo + j * 7 + 3, none⟩ = some (.int .i64 rindex) ∧ w'.cell? ⟨mb, mo + j * 7 + 4, none⟩ = some (.int .i64 rfrm) ∧ w'.cell? ⟨mb, mo + j * 7 + 5, none⟩ = some (.int .i64 rtil) ∧ w'.cell? ⟨mb, mo + j * 7 + 6, none⟩ = some (.string rbody)))
        (exact HBX.out _ (by (repeat (first | assumption | exact Same.refl _ _ | apply Same.alloc | apply Same.drew | apply Same.drewN)); done))
        (first | (go_at_call 16; refine Calls.mono (PL6.out _ (by (repeat (first | assumption | exact Same.refl _ _ | apply Same.alloc | apply Same.drew | apply Same.drewN)); done)) ?_; rintro r wq ⟨rfl, kx⟩) | (go_at_call 17; refine Calls.mono (VL6.out _ (by (repeat (first | assumption | exact Same.refl _ _ | apply Same.alloc | apply Same.drew | apply Same.drewN)); done)) ?_; rintro r wq ⟨rfl, kx9⟩))
      all_goals
        go_wp2_with fail
        go_meet
        exact ⟨rfl, (by (repeat (first | assumption | exact Same.refl _ _ | apply Same.alloc | apply Same.drew | apply Same.drewN)); done)⟩
    case rest =>
      obtain ⟨rfl, kc⟩ := hcut
      have KC : Hid (Kept W4 wc) := KG.out.trans' kc
      clear kc
      go_wp2_with fail
      go_roundw
      case rel => exact ⟨j + 1, by simp, hlt, KC.out⟩
      case measure => simp only [intOf]; omega
end Go.Proofs.Ytbjmdpfoeeadeaa.Sw
