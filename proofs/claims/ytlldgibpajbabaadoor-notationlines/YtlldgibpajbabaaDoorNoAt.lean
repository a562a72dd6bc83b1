/- What is proved: the code's appendTxn; conditions: the transaction is right, its operations lie below what is written, and lengths. -/
import Derived.Test.YtlldgibpajbabaaDoorNoAo
namespace Go.Proofs.YtlldgibpajbabaaDoor
open Go.RowKit

def headL (t : TxM) : List UInt8 := numL [115] t.f0 ++ numL [32, 113] t.f1 ++ numL [32, 116] t.f2 ++ numL [45] t.f3 ++ numL [32, 99] t.f4 ++ numL [45] t.f5 ++ [32] ++ stw t.f6
def opsL (ops : List OpM) : List UInt8 := ops.flatMap fun o => 32 :: opL o
/-- A transaction's line. -/
def line (t : TxM) : List UInt8 := headL t ++ opsL t.ops
theorem numL_len {p : List UInt8} {n : Int} (hp : p.length ≤ 2) (h0 : 0 ≤ n) (h1 : n ≤ 9223372036854775807) : (numL p n).length ≤ 23 := by
  have := Lib.itoa_length_le n (by omega) h1
  unfold numL
  rw [List.length_append]
  omega
theorem stw_len (st : Int) : (stw st).length ≤ 6 := by unfold stw; split <;> decide
theorem opL_len {o : OpM} (h : rightO o) : (opL o).length ≤ 54 := by
  have h1 : (keyL o).length ≤ 8 := by show o.key.data.toList.length ≤ 8; rw [Array.length_toList]; have := h.1; show o.key.size ≤ 8; omega
  have h2 : (valL o).length ≤ 16 := by show o.value.data.toList.length ≤ 16; rw [Array.length_toList]; have := h.1; show o.value.size ≤ 16; omega
  have w1 := wd_len (keyL o)
  have w2 := wd_len (valL o)
  unfold opL
  simp only [List.length_append, List.length_cons, List.length_nil]
  split
  · simp; omega
  · simp only [List.length_append, List.length_cons, List.length_nil]
    split
    · omega
    · simp; omega
theorem opsL_len : ∀ (ops : List OpM), (∀ o ∈ ops, rightO o) → (opsL ops).length ≤ 55 * ops.length
  | [], _ => Nat.le_refl _
  | o :: r, h => by
    have h1 := opL_len (h o (List.mem_cons_self ..))
    have h2 := opsL_len r (fun o ho => h o (List.mem_cons_of_mem _ ho))
    unfold opsL at h2 ⊢
    rw [List.flatMap_cons, List.length_append, List.length_cons, List.length_cons]
    omega
theorem opsL_snoc {ops : List OpM} {k : Nat} {o : OpM} (h : ops[k]? = some o) : opsL (ops.take (k + 1)) = opsL (ops.take k) ++ (32 :: opL o) := by
  rw [List.take_add_one, h]
  simp [opsL]
theorem headL_len {t : TxM} (h : rightF t) : (headL t).length ≤ 145 := by
  have e : (headL t).length = (numL [115] t.f0).length + (numL [32, 113] t.f1).length + (numL [32, 116] t.f2).length + (numL [45] t.f3).length + (numL [32, 99] t.f4).length + (numL [45] t.f5).length + 1 + (stw t.f6).length := by
    unfold headL
    simp only [List.length_append, List.length_cons, List.length_nil]
  obtain ⟨h0, h1, h2, h3, h4, h5, -⟩ := h
  unfold inB at *
  have g0 := numL_len (p := [115]) (n := t.f0) (by decide) (by omega) (by omega)
  have g1 := numL_len (p := [32, 113]) (n := t.f1) (by decide) (by omega) (by omega)
  have g2 := numL_len (p := [32, 116]) (n := t.f2) (by decide) (by omega) (by omega)
  have g3 := numL_len (p := [45]) (n := t.f3) (by decide) (by omega) (by omega)
  have g4 := numL_len (p := [32, 99]) (n := t.f4) (by decide) (by omega) (by omega)
  have g5 := numL_len (p := [45]) (n := t.f5) (by decide) (by omega) (by omega)
  have g6 := stw_len t.f6
  omega
theorem line_len {t : TxM} (h : Right t) : (line t).length ≤ 1025 := by
  have h1 := headL_len h.1
  have h2 := opsL_len t.ops h.2.2
  have h3 := h.2.1
  unfold line
  rw [List.length_append]
  omega

set_option maxRecDepth 100000 in
set_option maxHeartbeats 6400000 in
theorem appendTxn_any {w : World} {base : Nat} {v : Value} {xs : List Int} (t : TxM) (a : Option Addr) (c : Nat) (hr : Right t) (hops : OpsAt w a t.ops) (hlow : ∀ k, InB a t.ops.length k → k < base) (hown : OwnB base w v xs) (hb : xs.length + 4096 ≤ 140737488355328) (hbase : base ≤ w.heap.size) (ht : Tab base w) :
    Calls Tryd.prog 22 #[v, txV t (.slice a t.ops.length c)] w fun e w' => ∃ v', e = .returned v' ∧ ApO base w (xs ++ nu (line t)) v' w' := by
  obtain ⟨f0, f1, f2, f3, f4, f5, f6, ops⟩ := t
  have HR : Hid (Right ⟨f0, f1, f2, f3, f4, f5, f6, ops⟩) := hr
  have HF : Hid ((0 ≤ f0 ∧ f0 ≤ 9223372036854775807) ∧ (0 ≤ f1 ∧ f1 ≤ 9223372036854775807) ∧ (0 ≤ f2 ∧ f2 ≤ 9223372036854775807) ∧ (0 ≤ f3 ∧ f3 ≤ 9223372036854775807) ∧ (0 ≤ f4 ∧ f4 ≤ 9223372036854775807) ∧ (0 ≤ f5 ∧ f5 ≤ 9223372036854775807)) := by
    obtain ⟨h0, h1, h2, h3, h4, h5, -⟩ := hr.1
    unfold inB at *
    dsimp only at *
    refine ⟨⟨?_, ?_⟩, ⟨?_, ?_⟩, ⟨?_, ?_⟩, ⟨?_, ?_⟩, ⟨?_, ?_⟩, ?_, ?_⟩ <;> omega
  have HL : Hid (line ⟨f0, f1, f2, f3, f4, f5, f6, ops⟩ = numL [115] f0 ++ numL [32, 113] f1 ++ numL [32, 116] f2 ++ numL [45] f3 ++ numL [32, 99] f4 ++ numL [45] f5 ++ [32] ++ stw f6 ++ opsL ops) := rfl
  have HQ : Hid ((headL ⟨f0, f1, f2, f3, f4, f5, f6, ops⟩).length ≤ 145 ∧ headL ⟨f0, f1, f2, f3, f4, f5, f6, ops⟩ = numL [115] f0 ++ numL [32, 113] f1 ++ numL [32, 116] f2 ++ numL [45] f3 ++ numL [32, 99] f4 ++ numL [45] f5 ++ [32] ++ stw f6) := ⟨headL_len hr.1, rfl⟩
  have H16 : Hid (ops.length ≤ 16 ∧ ∀ o ∈ ops, rightO o) := hr.2
  have HOP : Hid (∀ W, Oth base w W → OpsAt W a ops) := fun W k => OpsAt.kept hops k.1 (fun j hj e => by have := hlow j hj; omega)
  have HN : Hid (∀ W v ys p i, OwnB base W v ys → Oth base w W → p.length ≤ 2 → (0 ≤ i ∧ i ≤ 9223372036854775807) → ys.length + 64 ≤ 140737488355328 → Calls Tryd.prog 42 #[v, tx p, .int .i64 i] W fun e w' => ∃ v', e = .returned v' ∧ ApO base W (ys ++ nu (numL p i)) v' w') := fun W v ys p i o k hp hi hy => appendNumber_any p i (by omega) (by omega) o (by omega) hy (Nat.le_trans hbase k.1.size) (ht.on (k.below hbase))
  have HS : Hid (∀ w, _) := fun w => statusWord_any f6 w
  have HLen : Hid (∀ (p : List UInt8) (n : Int), p.length ≤ 2 → (0 ≤ n ∧ n ≤ 9223372036854775807) → (numL p n).length ≤ 23) := fun _ _ hp hn => numL_len hp hn.1 hn.2
  have A0 : Hid (Ao base w (w.alloc (.cells #[.int .i64 f0, .int .i64 f1, .int .i64 f2, .int .i64 f3, .int .i64 f4, .int .i64 f5, .int .i64 f6, .slice a ops.length c] 25 (0, 0))) v xs (.cells #[.int .i64 f0, .int .i64 f1, .int .i64 f2, .int .i64 f3, .int .i64 f4, .int .i64 f5, .int .i64 f6, .slice a ops.length c] 25 (0, 0))) := ⟨hown.kept ((Same.refl (fun _ => False) w).alloc _) (fun _ _ h => h), Oth.kept ((Same.refl _ w).alloc _), heap_new w _⟩
  have hnt : (25 : Nat) ≠ 5 := by decide
  have HB : Hid (base ≤ w.heap.size) := hbase
  have HX : Hid (xs.length + 4096 ≤ 140737488355328) := hb
  clear hown ht hops hlow hr hb hbase
  simp only [txV]
  generalize line ⟨f0, f1, f2, f3, f4, f5, f6, ops⟩ = LN at *
  obtain ⟨⟨d0, d1, d2, d3, d4, d5, d6, d7⟩, -⟩ := tx_obj A0.out.box
  have ld := lt_of_heap A0.out.box
  go_enter Tryd.func22, Tryd.ntmps22
  go_wp2_with fail
  refine Calls.mono (HN.out _ _ _ [115] f0 A0.out.own A0.out.oth (by decide) HF.out.1 (by (try simp only [List.length_append, nu_len]); have := HX.out; have := HLen.out [115] f0 (by decide) HF.out.1; have := HLen.out [32, 113] f1 (by decide) HF.out.2.1; have := HLen.out [32, 116] f2 (by decide) HF.out.2.2.1; have := HLen.out [45] f3 (by decide) HF.out.2.2.2.1; have := HLen.out [32, 99] f4 (by decide) HF.out.2.2.2.2.1; have := HLen.out [45] f5 (by decide) HF.out.2.2.2.2.2; have := stw_len f6; omega)) ?_
  rintro e w1 ⟨v1, rfl, a9⟩
  have A1 : Hid _ := A0.out.go hnt a9
  obtain ⟨⟨d0, d1, d2, d3, d4, d5, d6, d7⟩, -⟩ := tx_obj A1.out.box
  have ld := lt_of_heap A1.out.box
  clear a9 A0
  go_wp2_with fail
  refine Calls.mono (HN.out _ _ _ [32, 113] f1 A1.out.own A1.out.oth (by decide) HF.out.2.1 (by (try simp only [List.length_append, nu_len]); have := HX.out; have := HLen.out [115] f0 (by decide) HF.out.1; have := HLen.out [32, 113] f1 (by decide) HF.out.2.1; have := HLen.out [32, 116] f2 (by decide) HF.out.2.2.1; have := HLen.out [45] f3 (by decide) HF.out.2.2.2.1; have := HLen.out [32, 99] f4 (by decide) HF.out.2.2.2.2.1; have := HLen.out [45] f5 (by decide) HF.out.2.2.2.2.2; have := stw_len f6; omega)) ?_
  rintro e w2 ⟨v2, rfl, a9⟩
  have A2 : Hid _ := A1.out.go hnt a9
  obtain ⟨⟨d0, d1, d2, d3, d4, d5, d6, d7⟩, -⟩ := tx_obj A2.out.box
  have ld := lt_of_heap A2.out.box
  clear a9 A1
  go_wp2_with fail
  refine Calls.mono (HN.out _ _ _ [32, 116] f2 A2.out.own A2.out.oth (by decide) HF.out.2.2.1 (by (try simp only [List.length_append, nu_len]); have := HX.out; have := HLen.out [115] f0 (by decide) HF.out.1; have := HLen.out [32, 113] f1 (by decide) HF.out.2.1; have := HLen.out [32, 116] f2 (by decide) HF.out.2.2.1; have := HLen.out [45] f3 (by decide) HF.out.2.2.2.1; have := HLen.out [32, 99] f4 (by decide) HF.out.2.2.2.2.1; have := HLen.out [45] f5 (by decide) HF.out.2.2.2.2.2; have := stw_len f6; omega)) ?_
  rintro e w3 ⟨v3, rfl, a9⟩
  have A3 : Hid _ := A2.out.go hnt a9
  obtain ⟨⟨d0, d1, d2, d3, d4, d5, d6, d7⟩, -⟩ := tx_obj A3.out.box
  have ld := lt_of_heap A3.out.box
  clear a9 A2
  go_wp2_with fail
  refine Calls.mono (HN.out _ _ _ [45] f3 A3.out.own A3.out.oth (by decide) HF.out.2.2.2.1 (by (try simp only [List.length_append, nu_len]); have := HX.out; have := HLen.out [115] f0 (by decide) HF.out.1; have := HLen.out [32, 113] f1 (by decide) HF.out.2.1; have := HLen.out [32, 116] f2 (by decide) HF.out.2.2.1; have := HLen.out [45] f3 (by decide) HF.out.2.2.2.1; have := HLen.out [32, 99] f4 (by decide) HF.out.2.2.2.2.1; have := HLen.out [45] f5 (by decide) HF.out.2.2.2.2.2; have := stw_len f6; omega)) ?_
  rintro e w4 ⟨v4, rfl, a9⟩
  have A4 : Hid _ := A3.out.go hnt a9
  obtain ⟨⟨d0, d1, d2, d3, d4, d5, d6, d7⟩, -⟩ := tx_obj A4.out.box
  have ld := lt_of_heap A4.out.box
  clear a9 A3
  go_wp2_with fail
  refine Calls.mono (HN.out _ _ _ [32, 99] f4 A4.out.own A4.out.oth (by decide) HF.out.2.2.2.2.1 (by (try simp only [List.length_append, nu_len]); have := HX.out; have := HLen.out [115] f0 (by decide) HF.out.1; have := HLen.out [32, 113] f1 (by decide) HF.out.2.1; have := HLen.out [32, 116] f2 (by decide) HF.out.2.2.1; have := HLen.out [45] f3 (by decide) HF.out.2.2.2.1; have := HLen.out [32, 99] f4 (by decide) HF.out.2.2.2.2.1; have := HLen.out [45] f5 (by decide) HF.out.2.2.2.2.2; have := stw_len f6; omega)) ?_
  rintro e w5 ⟨v5, rfl, a9⟩
  have A5 : Hid _ := A4.out.go hnt a9
  obtain ⟨⟨d0, d1, d2, d3, d4, d5, d6, d7⟩, -⟩ := tx_obj A5.out.box
  have ld := lt_of_heap A5.out.box
  clear a9 A4
  go_wp2_with fail
  refine Calls.mono (HN.out _ _ _ [45] f5 A5.out.own A5.out.oth (by decide) HF.out.2.2.2.2.2 (by (try simp only [List.length_append, nu_len]); have := HX.out; have := HLen.out [115] f0 (by decide) HF.out.1; have := HLen.out [32, 113] f1 (by decide) HF.out.2.1; have := HLen.out [32, 116] f2 (by decide) HF.out.2.2.1; have := HLen.out [45] f3 (by decide) HF.out.2.2.2.1; have := HLen.out [32, 99] f4 (by decide) HF.out.2.2.2.2.1; have := HLen.out [45] f5 (by decide) HF.out.2.2.2.2.2; have := stw_len f6; omega)) ?_
  rintro e w6 ⟨v6, rfl, a9⟩
  have A6 : Hid _ := A5.out.go hnt a9
  obtain ⟨⟨d0, d1, d2, d3, d4, d5, d6, d7⟩, -⟩ := tx_obj A6.out.box
  have ld := lt_of_heap A6.out.box
  clear a9 A5
  go_wp2_with (at_builtin; refine wpList_app rfl (.tmp 31) (.tmp 32) 39 39 rfl v6 (.slice (some ⟨_, 0, none⟩) 1 1) rfl rfl _ (app1O 32 A6.out.own (by (try simp only [List.length_append, nu_len]); have := HX.out; have := HLen.out [115] f0 (by decide) HF.out.1; have := HLen.out [32, 113] f1 (by decide) HF.out.2.1; have := HLen.out [32, 116] f2 (by decide) HF.out.2.2.1; have := HLen.out [45] f3 (by decide) HF.out.2.2.2.1; have := HLen.out [32, 99] f4 (by decide) HF.out.2.2.2.2.1; have := HLen.out [45] f5 (by decide) HF.out.2.2.2.2.2; have := stw_len f6; omega) (A6.out.size HB.out) _ (by first | rfl | simp)) ?_; rintro v7 w7 a9; have A7 : Hid _ := A6.out.go hnt a9; obtain ⟨⟨d0, d1, d2, d3, d4, d5, d6, d7⟩, -⟩ := tx_obj A7.out.box; have ld := lt_of_heap A7.out.box; clear a9)
  refine Calls.mono (HS.out _) ?_
  rintro e w9 ⟨rfl, e9⟩
  subst e9
  go_wp2_with (at_builtin; refine wpList_app rfl (.tmp 34) (.tmp 37) 39 9 rfl v7 (tx (stw f6)) rfl rfl _ (app_txO (stw f6) A7.out.own (by (try simp only [List.length_append, nu_len, List.length_cons, List.length_nil]); have := HX.out; have := HLen.out [115] f0 (by decide) HF.out.1; have := HLen.out [32, 113] f1 (by decide) HF.out.2.1; have := HLen.out [32, 116] f2 (by decide) HF.out.2.2.1; have := HLen.out [45] f3 (by decide) HF.out.2.2.2.1; have := HLen.out [32, 99] f4 (by decide) HF.out.2.2.2.2.1; have := HLen.out [45] f5 (by decide) HF.out.2.2.2.2.2; have := stw_len f6; omega) (A7.out.size HB.out)) ?_; rintro v8 w8 a9; have A8 : Hid _ := A7.out.go hnt a9; obtain ⟨⟨d0, d1, d2, d3, d4, d5, d6, d7⟩, -⟩ := tx_obj A8.out.box; have ld := lt_of_heap A8.out.box; clear a9)
  have AH : Hid (Ao base w w8 v8 (xs ++ nu (headL ⟨f0, f1, f2, f3, f4, f5, f6, ops⟩)) (.cells #[.int .i64 f0, .int .i64 f1, .int .i64 f2, .int .i64 f3, .int .i64 f4, .int .i64 f5, .int .i64 f6, .slice a ops.length c] 25 (0, 0))) := by
    have h9 := A8.out
    rw [HQ.out.2]
    simp only [nu_app, ← List.append_assoc]
    exact h9
  have HL2 : Hid (LN = headL ⟨f0, f1, f2, f3, f4, f5, f6, ops⟩ ++ opsL ops) := by show _ = _; rw [HQ.out.2]; exact HL.out
  have HHL : Hid ((headL ⟨f0, f1, f2, f3, f4, f5, f6, ops⟩).length ≤ 145) := HQ.out.1
  clear A6 A7 A8 HL HQ HN HS HLen HF HR
  generalize headL ⟨f0, f1, f2, f3, f4, f5, f6, ops⟩ = HD at *
  have h16 := H16.out.1
  go_loopw [0, 42] (fun u i wr => ∃ k : Nat, i = .int .i64 (k : Int) ∧ k ≤ ops.length ∧ Ao base w wr u (xs ++ nu (HD ++ opsL (ops.take k))) (.cells #[.int .i64 f0, .int .i64 f1, .int .i64 f2, .int .i64 f3, .int .i64 f4, .int .i64 f5, .int .i64 f6, .slice a ops.length c] 25 (0, 0))) (fun _ i _ => ops.length - (intOf i).toNat)
  case atStart => exact ⟨0, rfl, Nat.zero_le _, by have h9 := AH.out; simpa [opsL] using h9⟩
  case round =>
    obtain ⟨k, rfl, hk, hA⟩ := hrel
    rename World => W
    have HA : Hid _ := hA
    clear hA AH d0 d1 d2 d3 d4 d5 d6 d7 ld
    by_cases hkn : k < ops.length
    · have c1 : decide ((k : Int) < (ops.length : Int)) = true := decide_eq_true (by omega)
      have hkn2 : (k : Int) < (ops.length : Int) := by omega
      obtain ⟨o, ho⟩ : ∃ o, ops[k]? = some o := ⟨_, List.getElem?_eq_getElem hkn⟩
      obtain ⟨b', off', e', hb', c0, c2, c3, c4⟩ := HOP.out W HA.out.oth k o ho
      subst e'
      have HRO : Hid (rightO o) := H16.out.2 o (List.mem_of_getElem? ho)
      have HTK : Hid _ := opsL_snoc ho
      have HLL : Hid ((HD ++ opsL (ops.take k)).length ≤ 1025) := by
        show _ ≤ _
        have h1 := opsL_len (ops.take k) (fun o ho => H16.out.2 o (List.mem_of_mem_take ho))
        have h2 := HHL.out
        rw [List.length_append]
        rw [List.length_take] at h1
        omega
      have HAP : Hid (∀ W v ys, OwnB base W v ys → base ≤ W.heap.size → ys.length + 64 ≤ 140737488355328 → Calls Tryd.prog 44 #[v, opV o] W fun e w' => ∃ v', e = .returned v' ∧ ApO base W (ys ++ nu (opL o)) v' w') := fun W v ys hw hz hy => appendOp_any o (by have := HRO.out.1; omega) (by have := HRO.out.1; omega) hw hy hz
      obtain ⟨kind, key, found, value⟩ := o
      simp only [opV] at HAP
      dsimp only at c0 c2 c3 c4
      clear ho
      have A1 : Hid _ := HA.out.kept ((Same.refl _ W).alloc (opO (.int .i64 kind) (.string key) (.bool found) (.string value)))
      have B1 : Hid _ := heap_new W (opO (.int .i64 kind) (.string key) (.bool found) (.string value))
      unfold opO at A1 B1
      have Z1 : Hid (base ≤ W.heap.size) := HA.out.size HB.out
      have hno : (49 : Nat) ≠ 5 := by decide
      go_wp2_with (at_builtin; refine wpList_app rfl (.tmp 46) (.tmp 47) 39 39 rfl _ (.slice (some ⟨_, 0, none⟩) 1 1) rfl rfl _ (app1O 32 A1.out.own (by rw [List.length_append, nu_len]; have := HLL.out; have := HX.out; omega) (A1.out.size HB.out) _ (by first | rfl | simp)) ?_; rintro v9 w9 a9; have A2 : Hid _ := A1.out.go hnt a9; have b2 := a9.2.box B1.out hno; have Z2 : Hid (base ≤ w9.heap.size) := A2.out.size HB.out; obtain ⟨⟨x0, x1, x2, x3⟩, -⟩ := op_obj b2; have lx := lt_of_heap b2; clear a9 b2)
      refine Calls.mono (HAP.out _ _ _ A2.out.own Z2.out (by simp only [List.length_append, nu_len, List.length_cons, List.length_nil]; have h1 := HLL.out; simp only [List.length_append] at h1; have h2 := HX.out; omega)) ?_
      rintro e wA ⟨vA, rfl, aA⟩
      have A3 : Hid _ := A2.out.go hnt aA
      clear aA A1 A2 x0 x1 x2 x3 lx
      go_wp2_with fail
      go_roundw
      case rel =>
        refine ⟨k + 1, by simp, hkn, ?_⟩
        have h9 := A3.out
        rw [HTK.out]
        simp only [nu_app, List.append_assoc] at h9 ⊢
        exact h9
      case measure => simp only [intOf]; omega
    · have c1 : decide ((k : Int) < (ops.length : Int)) = false := decide_eq_false (by omega)
      have hkn2 : ¬ (k : Int) < (ops.length : Int) := by omega
      have E : Hid (ops.take k = ops) := List.take_of_length_le (by omega)
      go_wp2_with fail
      go_ret
      refine ⟨_, rfl, ?_⟩
      rw [HL2.out]
      have h9 := HA.out
      rw [E.out] at h9
      exact ⟨h9.own, h9.oth⟩
end Go.Proofs.YtlldgibpajbabaaDoor
