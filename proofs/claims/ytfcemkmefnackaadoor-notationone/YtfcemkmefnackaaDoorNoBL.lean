/- What is proved: the law NotationBack returns true and turns nothing that was there; condition: the library's table of powers lies as its text lays it. -/
import Derived.Test.YtfcemkmefnackaaDoorNoBl
import Derived.Test.YtfcemkmefnackaaDoorNoOT
import Derived.Test.YtfcemkmefnackaaDoorNoAn
import Derived.Test.YtfcemkmefnackaaDoorRRVal
namespace Go.Proofs.YtfcemkmefnackaaDoor
open Go.RowKit

def asc (b : UInt8) : Bool := decide (32 ≤ b.toNat) && decide (b.toNat ≤ 126)
theorem asc_wch : ∀ n : Fin 256, wch (UInt8.ofNat n.val) = true → asc (UInt8.ofNat n.val) = true := by decide +kernel
theorem asc_of {b : UInt8} (h : wch b = true) : asc b = true := by
  have := asc_wch ⟨b.toNat, b.toNat_lt⟩
  simp only [UInt8.ofNat_toNat] at this
  exact this h
theorem asc_dg {b : UInt8} (h : dg b = true) : asc b = true := by
  obtain ⟨h1, h2⟩ := dg_nat h
  unfold asc
  rw [decide_eq_true (by omega), decide_eq_true (by omega)]
  rfl
theorem asc_wd (l : List UInt8) : (wd l).all asc = true := by
  rw [List.all_eq_true]
  intro b hb
  exact asc_of (List.all_eq_true.1 (wd_wch l) b hb)
theorem asc_num {p : List UInt8} (hp : p.all asc = true) {n : Int} (h : inF n) : (numL p n).all asc = true := by
  obtain ⟨m, rfl, -⟩ := nat_of h
  unfold numL
  rw [itoa_nat, List.all_append, hp, Bool.true_and, List.all_eq_true]
  intro b hb
  exact asc_dg (List.all_eq_true.1 (dec_dg m) b hb)
theorem asc_letr (k : Int) : asc (letr k) = true := by
  unfold letr
  split
  · decide
  · split <;> decide
theorem asc_op (o : OpM) : (opL o).all asc = true := by
  have h1 := asc_letr o.kind
  unfold opL
  rw [List.all_append, List.all_append, List.all_append, asc_wd]
  simp only [List.all_cons, List.all_nil, h1, show asc 40 = true from by decide, show asc 41 = true from by decide, Bool.and_true, Bool.true_and]
  split
  · rfl
  · rw [List.all_append]
    split
    · rw [asc_wd]; decide
    · decide
theorem asc_ops : ∀ (ops : List OpM), (opsL ops).all asc = true
  | [] => rfl
  | o :: ops => by
    rw [opsL_cons, List.all_append, asc_ops ops, List.all_cons, asc_op, show asc 32 = true from by decide]
    rfl
theorem asc_stw (st : Int) : (stw st).all asc = true := by
  unfold stw
  split <;> decide
theorem asc_line {t : TxM} (h : Form t) : (line t).all asc = true := by
  rw [line_eq]
  simp only [List.all_append, asc_num (p := [115]) (by decide) h.a0, asc_num (p := [32, 113]) (by decide) h.a1, asc_num (p := [32, 116]) (by decide) h.a2, asc_num (p := [45]) (by decide) h.a3, asc_num (p := [32, 99]) (by decide) h.a4, asc_num (p := [45]) (by decide) h.a5, asc_stw, asc_ops, Bool.and_true]
  decide
theorem asc_at {l : List UInt8} (h : l.all asc = true) {k : Nat} {b : UInt8} (hb : l[k]? = some b) : 32 ≤ b.toNat ∧ b.toNat ≤ 126 := by
  have := List.all_eq_true.1 h b (List.mem_of_getElem? hb)
  unfold asc at this
  simpa using this

set_option maxRecDepth 100000 in
set_option maxHeartbeats 3200000 in
theorem back_law (w : World) (t : TxM) (a : Option Addr) (c : Nat) (h : ArgT w t a c) (ht : Tab w.heap.size w) : Calls Tryd.prog 6 #[txV t (.slice a t.ops.length c)] w fun e w' => e = .returned (.bool true) ∧ Kept w w' := by
  have HAN : Hid (∀ W, Kept w W → _) := fun W (k : Kept w W) => anchor_any21 W (ht.up (Nat.le_refl _) k)
  have HC : Hid (∀ W, Kept w W → _) := fun W (k : Kept w W) => copy_any W t a c (h.on k)
  have HP : Hid (∀ W v, Kept w W → TxA W t v → _) := fun W v (k : Kept w W) hv => print_any W t v hv (ht.up (Nat.le_refl _) k)
  have HV : Hid (∀ W, Kept w W → _) := fun W (k : Kept w W) => validR_any W t (txV t (.slice a t.ops.length c)) (h.on k).txa
  have HRD : Hid (valid t = 0 → ∀ W, Calls Tryd.prog 20 #[tx (line t)] W fun e w' => ∃ a c, e = .returned (.tuple #[txV t (.slice a t.ops.length c), .int .i64 0]) ∧ OwnO W.heap.size w' (.slice a t.ops.length c) t.ops ∧ Kept W w') := fun hv W => by
    have hr := right_of hv
    have := parse_any (line t) W (Nat.le_trans (line_len hr) (by decide))
    rw [right_parse hr] at this
    exact this
  have HX : Hid (∀ W, Kept w W → TxA W t (txV t (.slice a t.ops.length c))) := fun W (k : Kept w W) => (h.on k).txa
  have HS : Hid (∀ W va vb, TxA W t va → TxA W t vb → _) := fun W va vb h1 h2 => sameT W t va vb h1 h2 (by have := h.le; omega)
  have HAS : Hid (valid t = 0 → (line t).all asc = true ∧ (line t).length ≤ 1025) := fun hv => ⟨asc_line (form_right (right_of hv)), line_len (right_of hv)⟩
  have EP : Hid (printT t = if valid t ≠ 0 then ([], valid t) else (line t, 0)) := rfl
  have TXA : Hid (∀ W b a' c', OwnO b W (.slice a' t.ops.length c') t.ops → TxA W t (txV t (.slice a' t.ops.length c'))) := fun W b a' c' o => OwnO.txa o
  clear h ht
  generalize printT t = PT at *
  generalize hvc : valid t = vc at *
  clear hvc
  generalize line t = LN at *
  obtain ⟨f0, f1, f2, f3, f4, f5, f6, ops⟩ := t
  simp only [txV] at HC HV TXA HRD HX ⊢
  have B0 : Hid _ := heap_new w (.cells #[.int .i64 f0, .int .i64 f1, .int .i64 f2, .int .i64 f3, .int .i64 f4, .int .i64 f5, .int .i64 f6, .slice a ops.length c] 38 (0, 0))
  go_enter Tryd.func6, Tryd.ntmps6
  go_wp2_with fail
  refine Calls.mono (HAN.out _ ((Same.refl _ w).alloc _)) ?_
  rintro e w1 ⟨rfl, k1⟩
  have K1 : Hid (Kept w w1) := ((Same.refl _ w).alloc _).trans' k1
  have B1 : Hid _ := (k1.block _ (lt_of_heap B0.out) (fun e => e)).trans B0.out
  obtain ⟨⟨d0, d1, d2, d3, d4, d5, d6, d7⟩, -⟩ := tx_obj B1.out
  have ld := lt_of_heap B1.out
  clear k1 B0 HAN
  go_wp2_with fail
  refine Calls.mono (HC.out _ K1.out) ?_
  rintro e w2 ⟨a2, c2, rfl, o2, k2⟩
  have K2 : Hid (Kept w w2) := K1.out.trans' k2
  have B2 : Hid _ := (k2.block _ (lt_of_heap B1.out) (fun e => e)).trans B1.out
  have X2 : Hid _ := TXA.out _ _ _ _ o2
  clear k2 o2 d0 d1 d2 d3 d4 d5 d6 d7 ld K1 B1 HC
  go_wp2_with fail
  refine Calls.mono (HP.out _ _ K2.out X2.out) ?_
  rintro e w3 ⟨rfl, k3⟩
  have K3 : Hid (Kept w w3) := K2.out.trans' k3
  have B3 : Hid _ := (k3.block _ (lt_of_heap B2.out) (fun e => e)).trans B2.out
  obtain ⟨⟨d0, d1, d2, d3, d4, d5, d6, d7⟩, -⟩ := tx_obj B3.out
  have ld := lt_of_heap B3.out
  clear k3 K2 B2 X2 HP
  obtain ⟨pl, pc⟩ := PT
  dsimp only
  go_wp2_with fail
  refine Calls.mono (HV.out _ K3.out) ?_
  rintro e w4 ⟨rfl, k4⟩
  have K4 : Hid (Kept w w4) := K3.out.trans' k4
  have B4 : Hid _ := (k4.block _ (lt_of_heap B3.out) (fun e => e)).trans B3.out
  clear d0 d1 d2 d3 d4 d5 d6 d7 ld
  clear k4 K3 B3 HV
  by_cases hv : vc = 0
  · subst hv
    simp only [ne_eq, not_true, if_false] at EP
    obtain ⟨rfl, rfl⟩ := Prod.mk.inj EP.out
    clear EP
    have AS : Hid _ := (HAS.out rfl).1
    have hlen := (HAS.out rfl).2
    have RD : Hid _ := HRD.out rfl
    clear HAS HRD
    go_wp2_with fail
    go_loopw [5] (fun i w' => ∃ k : Nat, i = .int .i64 (k : Int) ∧ k ≤ pl.length ∧ w' = w4) (fun i _ => pl.length - (intOf i).toNat)
    case atStart => exact ⟨0, rfl, Nat.zero_le _, rfl⟩
    case round =>
      obtain ⟨k, rfl, hk, rfl⟩ := hrel
      by_cases hkn : k < pl.length
      · have c1 : decide ((k : Int) < (pl.length : Int)) = true := decide_eq_true (by omega)
        have hkn2 : (k : Int) < (pl.length : Int) := by omega
        obtain ⟨b, hb⟩ : ∃ b, pl[k]? = some b := ⟨_, List.getElem?_eq_getElem hkn⟩
        have hix : ∀ w, (Instr.index 9 (tx pl) (.int .i64 (k : Int))).run Tryd.prog w = _ := idx_tx hb
        have HB := asc_at AS.out hb
        have g1 : decide ((b.toNat : Int) < 32) = false := decide_eq_false (by omega)
        have g2 : decide ((b.toNat : Int) > 126) = false := decide_eq_false (by omega)
        have g1' : ¬ (b.toNat : Int) < 32 := by omega
        have g2' : ¬ (126 : Int) < (b.toNat : Int) := by omega
        clear hb HB
        go_wp2_with fail
        go_roundw
        case rel => exact ⟨k + 1, by simp, hkn, by trivial⟩
        case measure => simp only [intOf]; omega
      · have c1 : decide ((k : Int) < (pl.length : Int)) = false := decide_eq_false (by omega)
        have hkn2 : ¬ (k : Int) < (pl.length : Int) := by omega
        go_wp2_with fail
        refine Calls.mono (RD.out _) ?_
        rintro e w5 ⟨a5, c5, rfl, o5, k5⟩
        obtain ⟨W6, e6⟩ : ∃ W6, W6 = w5.alloc (.cells #[.int .i64 f0, .int .i64 f1, .int .i64 f2, .int .i64 f3, .int .i64 f4, .int .i64 f5, .int .i64 f6, .slice a5 ops.length c5] 38 (0, 0)) := ⟨_, rfl⟩
        have B6 : Hid (W6.heap[w5.heap.size]? = some (.cells #[.int .i64 f0, .int .i64 f1, .int .i64 f2, .int .i64 f3, .int .i64 f4, .int .i64 f5, .int .i64 f6, .slice a5 ops.length c5] 38 (0, 0))) := by rw [e6]; exact heap_new w5 _
        have K6 : Hid (Kept w W6) := by rw [e6]; exact (K4.out.trans' k5).alloc _
        have X6 : Hid (TxA W6 ⟨f0, f1, f2, f3, f4, f5, f6, ops⟩ (.agg #[.int .i64 f0, .int .i64 f1, .int .i64 f2, .int .i64 f3, .int .i64 f4, .int .i64 f5, .int .i64 f6, .slice a5 ops.length c5])) := (TXA.out _ _ _ _ o5).on (by rw [e6]; exact (Same.refl _ _).alloc _)
        have C6 : Hid (W6.heap[w.heap.size]? = some (.cells #[.int .i64 f0, .int .i64 f1, .int .i64 f2, .int .i64 f3, .int .i64 f4, .int .i64 f5, .int .i64 f6, .slice a ops.length c] 38 (0, 0))) := by rw [e6]; exact ((heap_old w5 _ (Nat.lt_of_lt_of_le (lt_of_heap B4.out) k5.size)).trans (k5.block _ (lt_of_heap B4.out) (fun e => e))).trans B4.out
        go_upto_region 12 with fail
        rw [← e6]
        clear e6 o5 k5
        obtain ⟨⟨d0, d1, d2, d3, d4, d5, d6, d7⟩, -⟩ := tx_obj B6.out
        obtain ⟨⟨x0, x1, x2, x3, x4, x5, x6, x7⟩, -⟩ := tx_obj C6.out
        have ld := lt_of_heap B6.out
        have lx := lt_of_heap C6.out
        go_wp2_with fail
        refine Calls.mono (HS.out _ _ _ (HX.out _ K6.out) X6.out) ?_
        rintro e w7 ⟨rfl, k7⟩
        have K7 : Hid _ := K6.out.trans' k7
        clear k7
        go_wp2_with fail
        go_ret
        exact ⟨rfl, K7.out⟩
  · have hv' : (vc == 0) = false := beq_eq_false_iff_ne.2 hv
    have hv2 : (vc != 0) = true := by rw [bne, hv']; rfl
    rw [if_pos hv] at EP
    obtain ⟨rfl, rfl⟩ := Prod.mk.inj EP.out
    clear EP
    go_wp2_with fail
    go_ret
    exact ⟨rfl, K4.out⟩
end Go.Proofs.YtfcemkmefnackaaDoor
