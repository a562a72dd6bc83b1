/- What is proved: WireWrites answers true for every list of bytes, number and text that are not too great together. -/
import Derived.Test.YtfedenfnkimngaaWCutL
import Derived.Test.YtfedenfnkimngaaWForm
namespace Go.Proofs.Ytfedenfnkimngaa
open Go.RowKit

/-- append behind a guard that lets it pass. -/
theorem wpList_appw {P : Program} {w : World} {ops : Array Oper} {rest : List Oper} {o : Oper} {a : Act} {Q : Exit → Act → World → Prop} (hw : Region.wanted o (yielded ops a.tmps) = true) (s x : Operand) (t u : TypeId)
    (ho : o.op = .call { callee := .builtin .append, args := #[s, x], argTypes := #[t, u] }) (vs vx : Value) (hs : a.eval s = vs) (hx : a.eval x = vx) (R : Value → World → Prop)
    (hrun : ∀ ty, ∃ v' w', (Builtin.append_ #[t, u] ty #[vs, vx]).run P w = .ok v' w' ∧ R v' w') (h : ∀ v' w', R v' w' → wpList P ops Q rest (a.put o.dst v') w') : wpList P ops Q (o :: rest) a w := by
  simp only [wpList, hw, if_true]
  left
  obtain ⟨v', w', hr, hR⟩ := hrun o.type
  unfold Oper.wp
  simp only [execOp, ho, resolve, invoke, builtin, Sem.run_bind, Sem.run_pure, Result.andThen_ok, List.map_toArray, List.map_cons, List.map_nil, hs, hx, hr]
  exact h v' w' hR
theorem app_onto {w : World} {base ub : Nat} {v u : Value} {xs ys : List Int} (o : OwnB base w v xs) (ou : OwnB ub w u ys) (hb : xs.length + ys.length ≤ 140737488355328) (hbase : base ≤ w.heap.size) (ty : TypeId) :
    ∃ v' w', (Builtin.append_ #[22, 22] ty #[v, u]).run Try.prog w = .ok v' w' ∧ AppR base w (xs ++ ys) v' w' := by
  obtain ⟨a, c, rfl, hd, -, hn, -, -⟩ := OwnB.bytes ou
  exact app_bytes o hd hn hb hbase ty
theorem same_own {w : World} {b1 b2 : Nat} {u v : Value} {l : List Int} (ou : OwnB b1 w u l) (ov : OwnB b2 w v l) (hl : l.length ≤ 9223372036854775807) : Calls Try.prog 18 #[u, v] w fun e w' => e = .returned (.bool true) ∧ w' = w := by
  obtain ⟨a, c, rfl, hd, -, -, -, -⟩ := OwnB.bytes ou
  obtain ⟨a', c', rfl, hd', -, -, -, -⟩ := OwnB.bytes ov
  exact same_true w a a' c c' l hd hd' hl
theorem same_arg {w : World} {b1 : Nat} {u : Value} {l : List Int} {oa : Option Addr} {c : Nat} (ou : OwnB b1 w u l) (h : ArgB w oa c l) : Calls Try.prog 18 #[u, .slice oa l.length c] w fun e w' => e = .returned (.bool true) ∧ w' = w := by
  obtain ⟨a, c, rfl, hd, -, -, -, -⟩ := OwnB.bytes ou
  have := h.le
  exact same_true w a oa c _ l hd h.data (by omega)
theorem appendText_own {base : Nat} {w : World} {v : Value} {l : List Int} (o : OwnB base w v l) (s : ByteArray) (hb : l.length + s.size + 8 ≤ 140737488355328) : Calls Try.prog 19 #[v, .string s] w fun e w' => ∃ v, e = .returned (.tuple #[v, .int .i64 0]) ∧ OwnB w.heap.size w' v (l ++ form s.size ++ nums s) ∧ Kept w w' := by
  obtain ⟨a, cap, rfl, hd, -, hn', -, -⟩ := OwnB.bytes o
  exact appendText_any w a cap l s hd hn' hb

set_option maxRecDepth 100000 in
set_option maxHeartbeats 3200000 in
theorem writes_yes (oa : Option Addr) (c : Nat) (l : List Int) (n : Nat) (s : ByteArray) (w : World) (h : ArgB w oa c l) (hn : n ≤ 72057594037927935) (hb : l.length + s.size ≤ 1048576) :
    Calls Try.prog 4 #[.slice oa l.length c, .int .i64 (n : Int), .string s] w fun e w' => e = .returned (.bool true) ∧ Kept w w' := by
  have hnot : ∀ (x : Bool) (w : World), (Op.unary .not (.bool x)).run Try.prog w = .ok (.bool (!x)) w := fun _ _ => rfl
  have HA : Hid _ := anchor_any w
  have H1 : Hid (∀ W, _) := fun W => form_ref W n hn
  have H2 : Hid (∀ W, _) := fun W => size_any n W hn
  have HR : Hid (∀ W, Kept w W → _) := fun W (k : Kept w W) => app_lit (c := c) (h.on k).data h.nil (by omega)
  have h8 := form8 hn
  have hp := form_pos n
  have h8s : (form s.size).length ≤ 8 := form8 (by omega)
  have H3 : Hid (∀ base W v, OwnB base W v l → _) := fun base W v (o : OwnB base W v l) => append_own o n (by omega) hn
  have H4 : Hid (∀ base ub W v u, OwnB base W v l → OwnB ub W u (form n) → base ≤ W.heap.size → _) := fun base ub W v u (o : OwnB base W v l) (ou : OwnB ub W u (form n)) (hz : base ≤ W.heap.size) => app_onto o ou (by omega) hz
  have H5 : Hid (∀ b1 b2 W u v, OwnB b1 W u (l ++ form n) → OwnB b2 W v (l ++ form n) → _) := fun b1 b2 W u v (ou : OwnB b1 W u (l ++ form n)) (ov : OwnB b2 W v (l ++ form n)) => same_own ou ov (by rw [List.length_append]; omega)
  have H6 : Hid (∀ base W v, OwnB base W v l → _) := fun base W v (o : OwnB base W v l) => appendText_own o s (by omega)
  have H7 : Hid (∀ b W u, OwnB b W u l → Kept w W → _) := fun b W u (ou : OwnB b W u l) (k : Kept w W) => same_arg ou (h.on k)
  have H8 : Hid (∀ W, _) := fun W => text_ref W s (by omega)
  have H9 : Hid (∀ base ub W v u, OwnB base W v l → OwnB ub W u (form s.size ++ nums s) → base ≤ W.heap.size → _) := fun base ub W v u (o : OwnB base W v l) (ou : OwnB ub W u (form s.size ++ nums s)) (hz : base ≤ W.heap.size) => app_onto o ou (by rw [List.length_append, nums_length]; omega) hz
  have H10 : Hid (∀ b1 b2 W u v, OwnB b1 W u (l ++ (form s.size ++ nums s)) → OwnB b2 W v (l ++ (form s.size ++ nums s)) → _) := fun b1 b2 W u v (ou : OwnB b1 W u (l ++ (form s.size ++ nums s))) (ov : OwnB b2 W v (l ++ (form s.size ++ nums s))) => same_own ou ov (by rw [List.length_append, List.length_append, nums_length]; omega)
  obtain ⟨L, eL⟩ : ∃ L, L = l.length := ⟨_, rfl⟩
  rw [← eL] at HR H7 ⊢
  obtain ⟨F, eF⟩ : ∃ F, F = (form n).length := ⟨_, rfl⟩
  rw [← eF] at H2 hp
  have EF : Hid _ := eF
  have d1 : ((F : Int) != (F : Int)) = false := by simp
  have d2 : ((F : Int) == 0) = false := by simp; omega
  have d2' : ¬ (F : Int) = 0 := by omega
  clear h hb h8 h8s eL eF hn
  go_enter Try.func4, Try.ntmps4
  go_wp2_with fail
  refine Calls.mono HA.out ?_
  rintro e w1 ⟨rfl, k1⟩
  have K1 : Hid _ := k1
  clear k1
  go_wp2_with fail
  refine Calls.mono (H1.out _) ?_
  rintro e w2 ⟨v2, rfl, o2, k2⟩
  have K2 : Hid (Kept w w2) := Same.trans' K1.out k2
  obtain ⟨a2, c2, rfl, -, -, -, -, -⟩ := OwnB.bytes o2
  have O2 : Hid (OwnB w1.heap.size w2 (.slice a2 F c2) (form n)) := by rw [EF.out]; exact o2
  rw [← EF.out]
  clear o2 k2
  go_wp2_with fail
  refine Calls.mono (H2.out _) ?_
  rintro e w3 ⟨rfl, rfl⟩
  go_wp2_with (at_builtin; refine wpList_app rfl (.tmp 22) (.tmp 23) 22 22 rfl _ _ rfl rfl _ (HR.out _ K2.out) ?_; rintro v4 w4 ⟨o4, k4⟩)
  have K4 : Hid (Kept w w4) := Same.trans' K2.out k4
  have O4 : Hid _ := o4
  have O24 : Hid (OwnB w1.heap.size w4 (.slice a2 F c2) (form n)) := OwnB.kept O2.out k4 (fun _ _ h => h)
  clear o4 k4 O2
  go_wp2_with fail
  refine Calls.mono (H3.out _ _ _ O4.out) ?_
  rintro e w5 ⟨v5, rfl, o5, k5⟩
  have K5 : Hid (Kept w w5) := Same.trans' K4.out k5
  have O5 : Hid _ := o5
  have O45 : Hid (OwnB w3.heap.size w5 v4 l) := OwnB.kept O4.out k5 (fun _ _ h => h)
  have O25 : Hid (OwnB w1.heap.size w5 (.slice a2 F c2) (form n)) := OwnB.kept O24.out k5 (fun _ _ h => h)
  clear o5 k5 O4 O24
  go_wp2_with (first
    | (at_builtin; refine wpList_appw (by rfl) (.tmp 45) (.tmp 46) 22 22 rfl _ _ rfl rfl _ (HR.out _ K5.out) ?_; rintro v6 w6 ⟨o6, k6⟩)
    | (at_builtin; refine wpList_appw (by rfl) (.tmp 47) (.tmp 48) 22 22 rfl _ _ rfl rfl _ (H4.out _ _ _ _ _ o6 (OwnB.kept O25.out k6 (fun _ _ h => h)) k6.size) ?_; rintro v7 w7 ⟨o7, k7⟩))
  have K57 : Hid (Kept w5 w7) := Same.trans k6 k7 (fun i hi e => by omega)
  have K7 : Hid (Kept w w7) := Same.trans' K5.out K57.out
  have HM7 : Hid _ := H5.out _ _ w7 v5 v7 (OwnB.kept O5.out K57.out (fun _ _ h => h)) o7
  have O47 : Hid (OwnB w3.heap.size w7 v4 l) := OwnB.kept O45.out K57.out (fun _ _ h => h)
  clear o6 k6 o7 k7
  refine Calls.mono HM7.out ?_
  rintro e w8 ⟨rfl, rfl⟩
  go_wp2_with fail
  refine Calls.mono (H6.out _ _ _ O47.out) ?_
  rintro e w9 ⟨v9, rfl, o9, k9⟩
  have K9 : Hid (Kept w w9) := Same.trans' K7.out k9
  have O9 : Hid _ := o9
  have O49 : Hid (OwnB w3.heap.size w9 v4 l) := OwnB.kept O47.out k9 (fun _ _ h => h)
  clear o9 k9
  go_wp2_with fail
  refine Calls.mono (H7.out _ _ _ O49.out K9.out) ?_
  rintro e w10 ⟨rfl, rfl⟩
  go_wp2_with (first
    | (at_builtin; refine wpList_appw (by rfl) (.tmp 68) (.tmp 69) 22 22 rfl _ _ rfl rfl _ (HR.out _ K9.out) ?_; rintro v11 w11 ⟨o11, k11⟩))
  refine Calls.mono (H8.out _) ?_
  rintro e w12 ⟨v12, rfl, o12, k12⟩
  have O11 : Hid (OwnB w10.heap.size w12 v11 l) := OwnB.kept o11 k12 (fun _ _ h => h)
  have O12 : Hid _ := o12
  have K12 : Hid (Kept w10 w12) := Same.trans' k11 k12
  clear o11 k11 o12 k12
  go_wp2_with (first
    | (at_builtin; refine wpList_appw (by rfl) (.tmp 70) (.tmp 72) 22 22 rfl _ _ rfl rfl _ (H9.out _ _ _ _ _ O11.out O12.out K12.out.size) ?_; rintro v13 w13 ⟨o13, k13⟩))
  have K13 : Hid (Kept w10 w13) := Same.trans K12.out k13 (fun i hi e => by omega)
  have O913 : Hid (OwnB w8.heap.size w13 v9 (l ++ (form s.size ++ nums s))) := by
    rw [← List.append_assoc]
    exact OwnB.kept O9.out K13.out (fun _ _ h => h)
  have HM13 : Hid _ := H10.out _ _ w13 v9 v13 O913.out o13
  have KF : Hid (Kept w w13) := Same.trans' K9.out K13.out
  clear o13 k13
  refine Calls.mono HM13.out ?_
  rintro e w14 ⟨rfl, rfl⟩
  go_wp2_with fail
  go_ret
  exact ⟨rfl, KF.out⟩

set_option maxRecDepth 100000 in
set_option maxHeartbeats 3200000 in
theorem writes_no (oa : Option Addr) (c : Nat) (l : List Int) (n : Int) (s : ByteArray) (w : World) (h : ArgB w oa c l) (hn : n < 0 ∨ 72057594037927935 < n) (hb : l.length + s.size ≤ 1048576) :
    Calls Try.prog 4 #[.slice oa l.length c, .int .i64 n, .string s] w fun e w' => e = .returned (.bool true) ∧ Kept w w' := by
  have hnot : ∀ (x : Bool) (w : World), (Op.unary .not (.bool x)).run Try.prog w = .ok (.bool (!x)) w := fun _ _ => rfl
  have HA : Hid _ := anchor_any w
  have H1 : Hid (∀ W, _) := fun W => form_no W n hn
  have H2 : Hid (∀ W, _) := fun W => size_no n W hn
  have HR : Hid (∀ W, Kept w W → _) := fun W (k : Kept w W) => app_lit (c := c) (h.on k).data h.nil (by omega)
  have h8s : (form s.size).length ≤ 8 := form8 (by omega)
  have H3 : Hid (∀ W v, _) := fun W v => append_no W v n hn
  have H6 : Hid (∀ base W v, OwnB base W v l → _) := fun base W v (o : OwnB base W v l) => appendText_own o s (by omega)
  have H7 : Hid (∀ b W u, OwnB b W u l → Kept w W → _) := fun b W u (ou : OwnB b W u l) (k : Kept w W) => same_arg ou (h.on k)
  have H8 : Hid (∀ W, _) := fun W => text_ref W s (by omega)
  have H9 : Hid (∀ base ub W v u, OwnB base W v l → OwnB ub W u (form s.size ++ nums s) → base ≤ W.heap.size → _) := fun base ub W v u (o : OwnB base W v l) (ou : OwnB ub W u (form s.size ++ nums s)) (hz : base ≤ W.heap.size) => app_onto o ou (by rw [List.length_append, nums_length]; omega) hz
  have H10 : Hid (∀ b1 b2 W u v, OwnB b1 W u (l ++ (form s.size ++ nums s)) → OwnB b2 W v (l ++ (form s.size ++ nums s)) → _) := fun b1 b2 W u v (ou : OwnB b1 W u (l ++ (form s.size ++ nums s))) (ov : OwnB b2 W v (l ++ (form s.size ++ nums s))) => same_own ou ov (by rw [List.length_append, List.length_append, nums_length]; omega)
  obtain ⟨L, eL⟩ : ∃ L, L = l.length := ⟨_, rfl⟩
  rw [← eL] at HR H7 ⊢
  clear h hb h8s eL hn
  go_enter Try.func4, Try.ntmps4
  go_wp2_with fail
  refine Calls.mono HA.out ?_
  rintro e w1 ⟨rfl, k1⟩
  have K1 : Hid _ := k1
  clear k1
  go_wp2_with fail
  refine Calls.mono (H1.out _) ?_
  rintro e w2 ⟨rfl, rfl⟩
  go_wp2_with fail
  refine Calls.mono (H2.out _) ?_
  rintro e w3 ⟨rfl, rfl⟩
  go_wp2_with (at_builtin; refine wpList_app rfl (.tmp 22) (.tmp 23) 22 22 rfl _ _ rfl rfl _ (HR.out _ K1.out) ?_; rintro v4 w4 ⟨o4, k4⟩)
  have K4 : Hid (Kept w w4) := Same.trans' K1.out k4
  have O4 : Hid _ := o4
  clear o4 k4
  go_wp2_with fail
  refine Calls.mono (H3.out _ _) ?_
  rintro e w5 ⟨rfl, rfl⟩
  go_wp2_with fail
  refine Calls.mono (H6.out _ _ _ O4.out) ?_
  rintro e w9 ⟨v9, rfl, o9, k9⟩
  have K9 : Hid (Kept w w9) := Same.trans' K4.out k9
  have O9 : Hid _ := o9
  have O49 : Hid (OwnB w3.heap.size w9 v4 l) := OwnB.kept O4.out k9 (fun _ _ h => h)
  clear o9 k9
  go_wp2_with fail
  refine Calls.mono (H7.out _ _ _ O49.out K9.out) ?_
  rintro e w10 ⟨rfl, rfl⟩
  go_wp2_with (first
    | (at_builtin; refine wpList_appw (by rfl) (.tmp 68) (.tmp 69) 22 22 rfl _ _ rfl rfl _ (HR.out _ K9.out) ?_; rintro v11 w11 ⟨o11, k11⟩))
  refine Calls.mono (H8.out _) ?_
  rintro e w12 ⟨v12, rfl, o12, k12⟩
  have O11 : Hid (OwnB w10.heap.size w12 v11 l) := OwnB.kept o11 k12 (fun _ _ h => h)
  have O12 : Hid _ := o12
  have K12 : Hid (Kept w10 w12) := Same.trans' k11 k12
  clear o11 k11 o12 k12
  go_wp2_with (first
    | (at_builtin; refine wpList_appw (by rfl) (.tmp 70) (.tmp 72) 22 22 rfl _ _ rfl rfl _ (H9.out _ _ _ _ _ O11.out O12.out K12.out.size) ?_; rintro v13 w13 ⟨o13, k13⟩))
  have K13 : Hid (Kept w10 w13) := Same.trans K12.out k13 (fun i hi e => by omega)
  have O913 : Hid (OwnB w5.heap.size w13 v9 (l ++ (form s.size ++ nums s))) := by
    rw [← List.append_assoc]
    exact OwnB.kept O9.out K13.out (fun _ _ h => h)
  have HM13 : Hid _ := H10.out _ _ w13 v9 v13 O913.out o13
  have KF : Hid (Kept w w13) := Same.trans' K9.out K13.out
  clear o13 k13
  refine Calls.mono HM13.out ?_
  rintro e w14 ⟨rfl, rfl⟩
  go_wp2_with fail
  go_ret
  exact ⟨rfl, KF.out⟩
end Go.Proofs.Ytfedenfnkimngaa
