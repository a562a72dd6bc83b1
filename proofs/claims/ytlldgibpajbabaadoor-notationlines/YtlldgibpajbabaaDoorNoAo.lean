/- What is proved: the code's appendOp; conditions: lengths. -/
import Derived.Test.YtlldgibpajbabaaDoorNoAi
namespace Go.Proofs.YtlldgibpajbabaaDoor
open Go.RowKit

theorem Oth.box {base b : Nat} {w w' : World} {arr : Array Value} {T : TypeId} {fz : Nat × Nat} (h : Oth base w w') (hb : w.heap[b]? = some (.cells arr T fz)) (hT : T ≠ 5) : w'.heap[b]? = some (.cells arr T fz) := h.2 b _ hb (fun c f e => by cases e; exact hT rfl)
theorem app1O {w : World} {base : Nat} {v : Value} {xs : List Int} (x : Int) (hown : OwnB base w v xs) (hb : xs.length + 1 ≤ 140737488355328) (hbase : base ≤ w.heap.size) (g : Nat) (hg : g = w.heap.size) (ty : TypeId) :
    ∃ v' w', (Builtin.append_ #[39, 39] ty #[v, .slice (some ⟨g, 0, none⟩) 1 1]).run Tryd.prog (w.alloc (.cells #[.int .u8 x] 5)) = .ok v' w' ∧ ApO base w (xs ++ [x]) v' w' := app_litO [x] hown hb hbase g hg ty
theorem app2O {w : World} {base : Nat} {v : Value} {xs : List Int} (x y : Int) (hown : OwnB base w v xs) (hb : xs.length + 2 ≤ 140737488355328) (hbase : base ≤ w.heap.size) (g : Nat) (hg : g = w.heap.size) (ty : TypeId) :
    ∃ v' w', (Builtin.append_ #[39, 39] ty #[v, .slice (some ⟨g, 0, none⟩) 2 2]).run Tryd.prog (w.alloc (.cells #[.int .u8 x, .int .u8 y] 5)) = .ok v' w' ∧ ApO base w (xs ++ [x, y]) v' w' := app_litO [x, y] hown hb hbase g hg ty
def keyL (o : OpM) : List UInt8 := o.key.data.toList
def valL (o : OpM) : List UInt8 := o.value.data.toList
/-- An operation's text. -/
def opL (o : OpM) : List UInt8 := [letr o.kind, 40] ++ wd (keyL o) ++ [41] ++ (if o.kind = 3 then [] else [61] ++ (if o.found = true then wd (valL o) else [45]))
theorem wd_len (l : List UInt8) : (wd l).length ≤ 2 * l.length + 1 := by
  unfold wd
  split
  · omega
  · rw [List.length_cons, hexs_len]; omega
/-- On the way: what is written so far, and the operation's box. -/
structure Ao (base : Nat) (w W : World) (v : Value) (ys : List Int) (ob : Obj) : Prop where
  own : OwnB base W v ys
  oth : Oth base w W
  box : W.heap[w.heap.size]? = some ob
theorem Ao.go {base : Nat} {w W W' : World} {v v' : Value} {ys zs : List Int} {arr : Array Value} {T : TypeId} (h : Ao base w W v ys (.cells arr T (0, 0))) (hT : T ≠ 5) (a : ApO base W zs v' W') : Ao base w W' v' zs (.cells arr T (0, 0)) := ⟨a.1, h.oth.trans a.2, a.2.box h.box hT⟩
theorem Ao.kept {base : Nat} {w W W' : World} {v : Value} {ys : List Int} {ob : Obj} (h : Ao base w W v ys ob) (k : Kept W W') : Ao base w W' v ys ob := ⟨h.own.kept k (fun _ _ h => h), h.oth.trans (Oth.kept k), (k.block _ (lt_of_heap h.box) (fun e => e)).trans h.box⟩
theorem Ao.size {base : Nat} {w W : World} {v : Value} {ys : List Int} {ob : Obj} (h : Ao base w W v ys ob) (hb : base ≤ w.heap.size) : base ≤ W.heap.size := Nat.le_trans hb h.oth.1.size

set_option maxRecDepth 100000 in
set_option maxHeartbeats 3200000 in
theorem appendOp_any {w : World} {base : Nat} {v : Value} {xs : List Int} (o : OpM) (hk : o.key.size ≤ 8) (hv : o.value.size ≤ 16) (hown : OwnB base w v xs) (hb : xs.length + 64 ≤ 140737488355328) (hbase : base ≤ w.heap.size) :
    Calls Tryd.prog 44 #[v, opV o] w fun e w' => ∃ v', e = .returned v' ∧ ApO base w (xs ++ nu (opL o)) v' w' := by
  obtain ⟨kind, key, found, value⟩ := o
  have HKL : Hid ((keyL ⟨kind, key, found, value⟩).length ≤ 8 ∧ (valL ⟨kind, key, found, value⟩).length ≤ 16) := ⟨by show key.data.toList.length ≤ 8; rw [Array.length_toList]; exact hk, by show value.data.toList.length ≤ 16; rw [Array.length_toList]; exact hv⟩
  have EK : Hid (Value.string key = tx (keyL ⟨kind, key, found, value⟩) ∧ Value.string value = tx (valL ⟨kind, key, found, value⟩)) := ⟨rfl, rfl⟩
  have EO : Hid (opL ⟨kind, key, found, value⟩ = [letr kind, 40] ++ wd (keyL ⟨kind, key, found, value⟩) ++ [41] ++ (if kind = 3 then [] else [61] ++ (if found = true then wd (valL ⟨kind, key, found, value⟩) else [45]))) := rfl
  generalize opL ⟨kind, key, found, value⟩ = OL at *
  simp only [opV]
  rw [EK.out.1, EK.out.2]
  generalize keyL ⟨kind, key, found, value⟩ = kl at *
  generalize valL ⟨kind, key, found, value⟩ = vl at *
  clear EK hk hv
  have A0 : Hid (Ao base w (w.alloc (opO (.int .i64 kind) (tx kl) (.bool found) (tx vl))) v xs (opO (.int .i64 kind) (tx kl) (.bool found) (tx vl))) := ⟨hown.kept ((Same.refl (fun _ => False) w).alloc _) (fun _ _ h => h), Oth.kept ((Same.refl _ w).alloc _), heap_new w _⟩
  have HL : Hid (∀ w, _) := fun w => opLetter_any kind w
  have HWk : Hid (∀ w, _) := fun w => word_any kl w (by have := HKL.out.1; omega)
  have HWv : Hid (∀ w, _) := fun w => word_any vl w (by have := HKL.out.2; omega)
  have hnt : (49 : Nat) ≠ 5 := by decide
  have HB : Hid (base ≤ w.heap.size) := hbase
  clear hown
  unfold opO at A0
  obtain ⟨⟨d0, d1, d2, d3⟩, -⟩ := op_obj A0.out.box
  have ld := lt_of_heap A0.out.box
  go_enter Tryd.func44, Tryd.ntmps44
  go_wp2_with fail
  refine Calls.mono (HL.out _) ?_
  rintro e w1 ⟨rfl, e1⟩
  subst e1
  go_wp2_with (at_builtin; refine wpList_app rfl (.tmp 5) (.tmp 9) 39 39 rfl v (.slice (some ⟨_, 0, none⟩) 2 2) rfl rfl _ (app2O ((letr kind).toNat : Int) 40 A0.out.own (by (try simp only [List.length_append, nu_len, List.length_cons, List.length_nil]); have := wd_len kl; have := wd_len vl; have := HKL.out.1; have := HKL.out.2; omega) (A0.out.size HB.out) _ (by first | rfl | simp)) ?_; rintro v1 w1 a9; have A1 : Hid _ := A0.out.go hnt a9; obtain ⟨⟨d0, d1, d2, d3⟩, -⟩ := op_obj A1.out.box; have ld := lt_of_heap A1.out.box; clear a9)
  refine Calls.mono (HWk.out _) ?_
  rintro e w2 ⟨rfl, k9⟩
  have A2 : Hid _ := A1.out.kept k9
  obtain ⟨⟨d0, d1, d2, d3⟩, -⟩ := op_obj A2.out.box
  have ld := lt_of_heap A2.out.box
  clear k9
  clear HL HWk
  by_cases h3 : kind = 3
  · have q3 : (kind == 3) = true := by rw [h3]; rfl
    go_wp2_with (first | (at_builtin; refine wpList_app rfl (.tmp 11) (.tmp 14) 39 9 rfl v1 (tx (wd kl)) rfl rfl _ (app_txO (wd kl) A2.out.own (by (try simp only [List.length_append, List.length_cons, List.length_nil]); have := wd_len kl; have := wd_len vl; have := HKL.out.1; have := HKL.out.2; omega) (A2.out.size HB.out)) ?_; rintro v3 w3 a9; have A3 : Hid _ := A2.out.go hnt a9; obtain ⟨⟨d0, d1, d2, d3⟩, -⟩ := op_obj A3.out.box; have ld := lt_of_heap A3.out.box; clear a9) | (at_builtin; refine wpList_app rfl (.tmp 16) (.tmp 17) 39 39 rfl v3 (.slice (some ⟨_, 0, none⟩) 1 1) rfl rfl _ (app1O 41 A3.out.own (by (try simp only [List.length_append, nu_len, List.length_cons, List.length_nil]); have := wd_len kl; have := wd_len vl; have := HKL.out.1; have := HKL.out.2; omega) (A3.out.size HB.out) _ (by first | rfl | simp)) ?_; rintro v4 w4 a9; have A4 : Hid _ := A3.out.go hnt a9; obtain ⟨⟨d0, d1, d2, d3⟩, -⟩ := op_obj A4.out.box; have ld := lt_of_heap A4.out.box; clear a9))
    go_ret
    refine ⟨v4, rfl, ?_, A4.out.oth⟩
    rw [EO.out, if_pos h3]
    have h9 := A4.out.own
    simp only [nu_app, List.append_assoc] at h9 ⊢
    exact h9

  · have q3 : (kind == 3) = false := beq_eq_false_iff_ne.2 h3
    cases hf : found with
    | false =>
      subst hf
      go_wp2_with (first | (at_builtin; refine wpList_app rfl (.tmp 11) (.tmp 14) 39 9 rfl v1 (tx (wd kl)) rfl rfl _ (app_txO (wd kl) A2.out.own (by (try simp only [List.length_append, List.length_cons, List.length_nil]); have := wd_len kl; have := wd_len vl; have := HKL.out.1; have := HKL.out.2; omega) (A2.out.size HB.out)) ?_; rintro v3 w3 a9; have A3 : Hid _ := A2.out.go hnt a9; obtain ⟨⟨d0, d1, d2, d3⟩, -⟩ := op_obj A3.out.box; have ld := lt_of_heap A3.out.box; clear a9) | (at_builtin; refine wpList_app rfl (.tmp 16) (.tmp 17) 39 39 rfl v3 (.slice (some ⟨_, 0, none⟩) 1 1) rfl rfl _ (app1O 41 A3.out.own (by (try simp only [List.length_append, nu_len, List.length_cons, List.length_nil]); have := wd_len kl; have := wd_len vl; have := HKL.out.1; have := HKL.out.2; omega) (A3.out.size HB.out) _ (by first | rfl | simp)) ?_; rintro v4 w4 a9; have A4 : Hid _ := A3.out.go hnt a9; obtain ⟨⟨d0, d1, d2, d3⟩, -⟩ := op_obj A4.out.box; have ld := lt_of_heap A4.out.box; clear a9) | (at_builtin; refine wpList_app rfl (.tmp 23) (.tmp 24) 39 39 rfl v4 (.slice (some ⟨_, 0, none⟩) 1 1) rfl rfl _ (app1O 61 A4.out.own (by (try simp only [List.length_append, nu_len, List.length_cons, List.length_nil]); have := wd_len kl; have := wd_len vl; have := HKL.out.1; have := HKL.out.2; omega) (A4.out.size HB.out) _ (by first | rfl | simp)) ?_; rintro v5 w5 a9; have A5 : Hid _ := A4.out.go hnt a9; obtain ⟨⟨d0, d1, d2, d3⟩, -⟩ := op_obj A5.out.box; have ld := lt_of_heap A5.out.box; clear a9) | (at_builtin; refine wpList_app rfl (.tmp 29) (.const (.string ⟨#[45]⟩)) 39 9 rfl v5 (tx [45]) rfl rfl _ (app_txO [45] A5.out.own (by (try simp only [List.length_append, nu_len, List.length_cons, List.length_nil]); have := wd_len kl; have := wd_len vl; have := HKL.out.1; have := HKL.out.2; omega) (A5.out.size HB.out)) ?_; rintro v6 w6 a9; have A6 : Hid _ := A5.out.go hnt a9; obtain ⟨⟨d0, d1, d2, d3⟩, -⟩ := op_obj A6.out.box; have ld := lt_of_heap A6.out.box; clear a9))
      go_ret
      refine ⟨v6, rfl, ?_, A6.out.oth⟩
      rw [EO.out, if_neg h3]
      have h9 := A6.out.own
      simp only [nu_app, List.append_assoc] at h9 ⊢
      exact h9

    | true =>
      subst hf
      go_wp2_with (first | (at_builtin; refine wpList_app rfl (.tmp 11) (.tmp 14) 39 9 rfl v1 (tx (wd kl)) rfl rfl _ (app_txO (wd kl) A2.out.own (by (try simp only [List.length_append, List.length_cons, List.length_nil]); have := wd_len kl; have := wd_len vl; have := HKL.out.1; have := HKL.out.2; omega) (A2.out.size HB.out)) ?_; rintro v3 w3 a9; have A3 : Hid _ := A2.out.go hnt a9; obtain ⟨⟨d0, d1, d2, d3⟩, -⟩ := op_obj A3.out.box; have ld := lt_of_heap A3.out.box; clear a9) | (at_builtin; refine wpList_app rfl (.tmp 16) (.tmp 17) 39 39 rfl v3 (.slice (some ⟨_, 0, none⟩) 1 1) rfl rfl _ (app1O 41 A3.out.own (by (try simp only [List.length_append, nu_len, List.length_cons, List.length_nil]); have := wd_len kl; have := wd_len vl; have := HKL.out.1; have := HKL.out.2; omega) (A3.out.size HB.out) _ (by first | rfl | simp)) ?_; rintro v4 w4 a9; have A4 : Hid _ := A3.out.go hnt a9; obtain ⟨⟨d0, d1, d2, d3⟩, -⟩ := op_obj A4.out.box; have ld := lt_of_heap A4.out.box; clear a9) | (at_builtin; refine wpList_app rfl (.tmp 23) (.tmp 24) 39 39 rfl v4 (.slice (some ⟨_, 0, none⟩) 1 1) rfl rfl _ (app1O 61 A4.out.own (by (try simp only [List.length_append, nu_len, List.length_cons, List.length_nil]); have := wd_len kl; have := wd_len vl; have := HKL.out.1; have := HKL.out.2; omega) (A4.out.size HB.out) _ (by first | rfl | simp)) ?_; rintro v5 w5 a9; have A5 : Hid _ := A4.out.go hnt a9; obtain ⟨⟨d0, d1, d2, d3⟩, -⟩ := op_obj A5.out.box; have ld := lt_of_heap A5.out.box; clear a9))
      refine Calls.mono (HWv.out _) ?_
      rintro e w6 ⟨rfl, k9⟩
      have A6 : Hid _ := A5.out.kept k9
      obtain ⟨⟨d0, d1, d2, d3⟩, -⟩ := op_obj A6.out.box
      have ld := lt_of_heap A6.out.box
      clear k9

      go_wp2_with (at_builtin; refine wpList_app rfl (.tmp 31) (.tmp 34) 39 9 rfl v5 (tx (wd vl)) rfl rfl _ (app_txO (wd vl) A6.out.own (by (try simp only [List.length_append, nu_len, List.length_cons, List.length_nil]); have := wd_len kl; have := wd_len vl; have := HKL.out.1; have := HKL.out.2; omega) (A6.out.size HB.out)) ?_; rintro v7 w7 a9; have A7 : Hid _ := A6.out.go hnt a9; obtain ⟨⟨d0, d1, d2, d3⟩, -⟩ := op_obj A7.out.box; have ld := lt_of_heap A7.out.box; clear a9)
      go_ret
      refine ⟨v7, rfl, ?_, A7.out.oth⟩
      rw [EO.out, if_neg h3]
      have h9 := A7.out.own
      simp only [nu_app, List.append_assoc] at h9 ⊢
      exact h9

end Go.Proofs.YtlldgibpajbabaaDoor
