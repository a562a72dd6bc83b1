/- What is proved: Size tells how many bytes a right row has and 0 of any other, Encode gives a right row's bytes in memory of its own and refuses any other; no condition. -/
import Derived.Test.YtcbllejjiokmbaaQCmp
namespace Go.Proofs.Ytcbllejjiokmbaa
open Go.RowKit

/-- The numbers between a row's kind and its body. -/
def five (r : RwM) : List Int := [r.time, r.seq, r.index, r.frm, r.til]
theorem bytesR_five (r : RwM) : bytesR r = r.kind :: (forms (five r) ++ encT r.body) := by
  simp only [bytesR, five, forms, List.append_assoc, List.append_nil]
def fiveV (r : RwM) : Value := .agg #[.int .i64 r.time, .int .i64 r.seq, .int .i64 r.index, .int .i64 r.frm, .int .i64 r.til]
theorem loadVar_arr5 {w : World} {b : Nat} {a0 a1 a2 a3 a4 : Int} (h : w.heap[b]? = some (.cells #[.int .i64 a0, .int .i64 a1, .int .i64 a2, .int .i64 a3, .int .i64 a4] 67 (0, 0))) :
    (loadVar 67 ⟨b, 0, none⟩).run Try.prog w = .ok (.agg #[.int .i64 a0, .int .i64 a1, .int .i64 a2, .int .i64 a3, .int .i64 a4]) w := by
  have c0 : w.cell? ⟨b, 0, none⟩ = some (.int .i64 a0) := (cell_of h 0).trans rfl
  have c1 : w.cell? ⟨b, 1, none⟩ = some (.int .i64 a1) := (cell_of h 1).trans rfl
  have c2 : w.cell? ⟨b, 2, none⟩ = some (.int .i64 a2) := (cell_of h 2).trans rfl
  have c3 : w.cell? ⟨b, 3, none⟩ = some (.int .i64 a3) := (cell_of h 3).trans rfl
  have c4 : w.cell? ⟨b, 4, none⟩ = some (.int .i64 a4) := (cell_of h 4).trans rfl
  clear h
  go_simp
theorem two_new9 (w : World) (o1 o2 : Obj) : ((w.alloc o1).alloc o2).heap[w.heap.size + 1]? = some o2 := by
  have := heap_new (w.alloc o1) o2
  rwa [World.size_alloc] at this
set_option maxRecDepth 100000 in
set_option maxHeartbeats 800000 in
theorem numbers_any (r : RwM) (w : World) : Calls Try.prog 34 #[rowV r] w fun e w' => e = .returned (fiveV r) ∧ Kept w w' := by
  obtain ⟨kind, time, seq, index, frm, til, body⟩ := r
  unfold rowV fiveV
  simp only
  go_enter Try.func34, Try.ntmps34
  go_wp2_with fail
  refine bodyPost_ret (results_c (a := 2) (t := 67) rfl rfl (loadVar_arr5 ?_)) rfl ⟨rfl, ((Same.refl _ w).alloc _).alloc _⟩
  exact two_new9 w _ _
theorem idx5a (a0 a1 a2 a3 a4 : Int) (w : World) : (Instr.index 67 (.agg #[.int .i64 a0, .int .i64 a1, .int .i64 a2, .int .i64 a3, .int .i64 a4]) (.int .i64 0)).run Try.prog w = .ok (.int .i64 a0) w ∧ (Instr.index 67 (.agg #[.int .i64 a0, .int .i64 a1, .int .i64 a2, .int .i64 a3, .int .i64 a4]) (.int .i64 1)).run Try.prog w = .ok (.int .i64 a1) w ∧
    (Instr.index 67 (.agg #[.int .i64 a0, .int .i64 a1, .int .i64 a2, .int .i64 a3, .int .i64 a4]) (.int .i64 2)).run Try.prog w = .ok (.int .i64 a2) w ∧ (Instr.index 67 (.agg #[.int .i64 a0, .int .i64 a1, .int .i64 a2, .int .i64 a3, .int .i64 a4]) (.int .i64 3)).run Try.prog w = .ok (.int .i64 a3) w ∧
    (Instr.index 67 (.agg #[.int .i64 a0, .int .i64 a1, .int .i64 a2, .int .i64 a3, .int .i64 a4]) (.int .i64 4)).run Try.prog w = .ok (.int .i64 a4) w :=
  ⟨by kernel_rfl, by kernel_rfl, by kernel_rfl, by kernel_rfl, by kernel_rfl⟩
theorem idx5 (r : RwM) (j : Nat) (x : Int) (h : (five r)[j]? = some x) (w : World) : (Instr.index 67 (fiveV r) (.int .i64 (j : Int))).run Try.prog w = .ok (.int .i64 x) w := by
  obtain ⟨q0, q1, q2, q3, q4⟩ := idx5a r.time r.seq r.index r.frm r.til w
  match j, h with
  | 0, h => cases h; exact q0
  | 1, h => cases h; exact q1
  | 2, h => cases h; exact q2
  | 3, h => cases h; exact q3
  | 4, h => cases h; exact q4
  | n + 5, h => simp [five] at h
theorem five_right {r : RwM} (h : rightR r) {x : Int} (hx : x ∈ five r) : 0 ≤ x ∧ x ≤ 1099511627776 := by
  obtain ⟨-, h1, h2, h3, h4, h5, -⟩ := h
  unfold inB at h1 h2 h3 h4 h5
  simp only [five, List.mem_cons, List.not_mem_nil, or_false] at hx
  rcases hx with rfl | rfl | rfl | rfl | rfl <;> omega
theorem forms_app9 (a b : List Int) : forms (a ++ b) = forms a ++ forms b := by
  induction a with
  | nil => rfl
  | cons x r ih => simp only [List.cons_append, forms, ih, List.append_assoc]
theorem forms_next9 {l : List Int} {j : Nat} {x : Int} (h : l[j]? = some x) : forms (l.take (j + 1)) = forms (l.take j) ++ form x.toNat := by
  rw [List.take_add_one, h, forms_app9]
  simp [forms]
theorem forms_len9 {l : List Int} (h : ∀ x ∈ l, x ≤ 1099511627776) : (forms l).length ≤ 8 * l.length := by
  induction l with
  | nil => simp [forms]
  | cons x r ih =>
    have := ih (fun y hy => h y (by simp [hy]))
    have hx := h x (by simp)
    have : (form x.toNat).length ≤ 8 := form_le (by decide) (by omega)
    simp only [forms, List.length_append, List.length_cons]
    omega
theorem five_take_len {r : RwM} (h : rightR r) (j : Nat) : (forms ((five r).take j)).length ≤ 40 := by
  have := forms_len9 (l := (five r).take j) (fun x hx => (five_right h (List.mem_of_mem_take hx)).2)
  have h8 : (five r).length = 5 := rfl
  rw [List.length_take] at this
  omega

set_option maxRecDepth 100000 in
set_option maxHeartbeats 800000 in
theorem size9_no (w : World) (r : RwM) (hr : ¬ rightR r) : Calls Try.prog 12 #[rowV r] w fun e w' => e = .returned (.int .i64 0) ∧ Kept w w' := by
  have H1 : Hid (∀ W, _) := fun W => valid9_any r W
  rw [decide_eq_false hr] at H1
  obtain ⟨kind, time, seq, index, frm, til, body⟩ := r
  unfold rowV at *
  simp only at *
  clear hr
  go_enter Try.func12, Try.ntmps12
  go_wp2_with fail
  refine Calls.mono (H1.out _) ?_
  rintro e w1 ⟨rfl, k1⟩
  go_wp2_with fail
  go_ret
  exact ⟨rfl, ((Same.refl _ w).alloc _).trans' k1⟩
set_option maxRecDepth 100000 in
set_option maxHeartbeats 800000 in
theorem encode9_no (w : World) (r : RwM) (hr : ¬ rightR r) : Calls Try.prog 11 #[rowV r] w fun e w' => e = .returned (.tuple #[.slice none 0 0, .int .i64 90]) ∧ Kept w w' := by
  have H1 : Hid (∀ W, _) := fun W => valid9_any r W
  rw [decide_eq_false hr] at H1
  obtain ⟨kind, time, seq, index, frm, til, body⟩ := r
  unfold rowV at *
  simp only at *
  clear hr
  go_enter Try.func11, Try.ntmps11
  go_wp2_with fail
  refine Calls.mono (H1.out _) ?_
  rintro e w1 ⟨rfl, k1⟩
  go_wp2_with fail
  go_ret2
  exact ⟨rfl, ((Same.refl _ w).alloc _).trans' k1⟩

set_option maxRecDepth 100000 in
set_option maxHeartbeats 1600000 in
theorem size9_ok (w : World) (r : RwM) (hr : rightR r) : Calls Try.prog 12 #[rowV r] w fun e w' => e = .returned (.int .i64 ((bytesR r).length : Int)) ∧ Kept w w' := by
  have H1 : Hid (∀ W, _) := fun W => valid9_any r W
  rw [decide_eq_true hr] at H1
  have H2 : Hid (∀ W, _) := fun W => numbers_any r W
  have HI : Hid _ := idx5 r
  have HR : Hid _ := hr
  have HS : Hid (∀ k : Nat, k ≤ 1099511627776 → ∀ W, _) := fun k (hk : k ≤ 1099511627776) W => size_any k W (by omega)
  obtain ⟨V, eV⟩ : ∃ V, V = fiveV r := ⟨_, rfl⟩
  rw [← eV] at H2 HI
  have hbs := hr.2.2.2.2.2.2
  obtain ⟨B, eB⟩ : ∃ B, B = r.body.size := ⟨_, rfl⟩
  have HB : Hid _ := HS.out B (by omega)
  have h8 : (form B).length ≤ 8 := form_le (by decide) (by omega)
  have HT : Hid ((bytesR r).length = 1 + (form B).length + B + (forms (five r)).length) := by
    show _ = _
    rw [bytesR_five, eB]
    simp only [List.length_cons, List.length_append, encT_len]
    omega
  obtain ⟨F, eF⟩ : ∃ F, F = (form B).length := ⟨_, rfl⟩
  rw [← eF] at h8 HT HB
  obtain ⟨S0, eS⟩ : ∃ S0, S0 = 1 + F + B := ⟨_, rfl⟩
  rw [← eS] at HT
  obtain ⟨F1, eF1⟩ : ∃ F1, F1 = 1 + F := ⟨_, rfl⟩
  have e1 : (1 : Int) + (F : Int) = (F1 : Int) := by omega
  have e2 : (F1 : Int) + (B : Int) = (S0 : Int) := by omega
  have hS0 : (S0 : Int) ≤ 700 := by omega
  have hF1 : (F1 : Int) ≤ 700 := by omega
  generalize bytesR r = T at HT ⊢
  unfold rowV at *
  have hsz : r.body.size = B := eB.symm
  clear hr eV eF eS hbs eB eF1
  go_enter Try.func12, Try.ntmps12
  go_wp2_with fail
  refine Calls.mono (H1.out _) ?_
  rintro e w1 ⟨rfl, k1⟩
  have b1 := (k1.block w.heap.size (by simp [World.size_alloc]) (fun h => h)).trans (heap_new w _)
  obtain ⟨⟨c0, c1, c2, c3, c4, c5, c6⟩, -⟩ := row_obj b1
  have hlt := lt_of_heap b1
  have B1 : Hid _ := b1
  have K1 : Hid (Kept w w1) := ((Same.refl _ w).alloc _).trans' k1
  clear k1 b1
  go_wp2_with fail
  go_quiet ((go_at_call 37; exact Calls.quiet_of_same (HB.out _)))
  go_wp2_with fail
  refine Calls.mono (H2.out _) ?_
  rintro e w2 ⟨rfl, k2⟩
  have K2 : Hid (Kept w w2) := Same.trans' K1.out (Same.trans' (by (repeat (first | exact Same.refl _ _ | apply Same.drew | apply Same.drewN)); done) k2)
  clear k2 c0 c1 c2 c3 c4 c5 c6
  go_wp2_with fail
  go_loopw [3, 20] (fun s i wr => ∃ j : Nat, i = .int .i64 j ∧ j ≤ 5 ∧ s = .int .i64 ((S0 + (forms ((five r).take j)).length : Nat) : Int) ∧ wr = w2) (fun _ i _ => 5 - (intOf i).toNat)
  case atStart => exact ⟨0, rfl, by omega, rfl, rfl⟩
  case round =>
    obtain ⟨j, rfl, hj, rfl, rfl⟩ := hrel
    by_cases hlt : j < 5
    · have d1 : decide ((j : Int) < 5) = true := decide_eq_true (by omega)
      have hlt2 : (j : Int) < 5 := by omega
      obtain ⟨x, hx⟩ : ∃ x, (five r)[j]? = some x := ⟨_, List.getElem?_eq_getElem hlt⟩
      have hxr := five_right HR.out (List.mem_of_getElem? hx)
      obtain ⟨k, ek⟩ : ∃ k : Nat, k = x.toNat := ⟨_, rfl⟩
      have exk : x = (k : Int) := by omega
      have hix := HI.out j x hx
      rw [exk] at hix
      have hf := forms_next9 hx
      have hl := five_take_len HR.out j
      have h8 : (form k).length ≤ 8 := form_le (by decide) (by omega)
      rw [← ek] at hf
      have HF : Hid (((S0 + (forms ((five r).take (j + 1))).length : Nat) : Int) = ((S0 + (forms ((five r).take j)).length : Nat) : Int) + ((form k).length : Int)) := by
        show (_ : Int) = _
        rw [hf, List.length_append]
        omega
      have HC : Hid _ := HS.out k (by omega)
      generalize eS : S0 + (forms ((five r).take j)).length = S at HF ⊢
      generalize (form k).length = F at h8 HF HC
      have hS : (S : Int) + (F : Int) ≤ 1000 := by omega
      have hS0' : 0 ≤ (S : Int) + (F : Int) := by omega
      clear hx hxr ek exk hf eS hl
      go_wp2_with fail
      refine Calls.mono (HC.out _) ?_
      rintro e w3 ⟨rfl, rfl⟩
      go_wp2_with fail
      go_roundw
      case rel => exact ⟨j + 1, by congr 1, hlt, by rw [HF.out], trivial⟩
      case measure => simp only [intOf]; omega
    · obtain rfl : j = 5 := by omega
      rw [show ((5 : Nat) : Int) = 5 from rfl]
      have d1 : decide ((5 : Int) < 5) = false := rfl
      have h88 : (five r).take 5 = five r := List.take_of_length_le (Nat.le_refl _)
      rw [h88, ← HT.out]
      clear h88
      go_wp2_with fail
      go_ret
      exact ⟨rfl, K2.out⟩

theorem append9 {base : Nat} {w : World} {v : Value} {l : List Int} (o : OwnB base w v l) (n : Nat) (hb : l.length + 8 ≤ 140737488355328) (hn : n ≤ 72057594037927935) (hbase : base ≤ w.heap.size) :
    Calls Try.prog 35 #[v, .int .i64 (n : Int)] w fun e w' => ∃ v', e = .returned (.tuple #[v', .int .i64 0]) ∧ OwnB base w' v' (l ++ form n) ∧ Kept w w' := by
  obtain ⟨a, cap, rfl, hd, -, hn', -, -⟩ := OwnB.bytes o
  refine Calls.mono (append_any w a cap l n hd hn' hb hn) ?_
  rintro e w' ⟨v', rfl, o', k'⟩
  exact ⟨v', rfl, OwnB.lower o' hbase, k'⟩
theorem appendText9 {base : Nat} {w : World} {v : Value} {l : List Int} (o : OwnB base w v l) (s : ByteArray) (hb : l.length + s.size + 8 ≤ 140737488355328) (hbase : base ≤ w.heap.size) :
    Calls Try.prog 36 #[v, .string s] w fun e w' => ∃ v', e = .returned (.tuple #[v', .int .i64 0]) ∧ OwnB base w' v' (l ++ encT s) ∧ Kept w w' := by
  obtain ⟨a, cap, rfl, hd, -, hn', -, -⟩ := OwnB.bytes o
  refine Calls.mono (appendText_any w a cap l s hd hn' hb) ?_
  rintro e w' ⟨v', rfl, o', k'⟩
  rw [List.append_assoc] at o'
  exact ⟨v', rfl, OwnB.lower o' hbase, k'⟩
set_option maxRecDepth 100000 in
set_option maxHeartbeats 1600000 in
theorem encode9_ok (w : World) (r : RwM) (hr : rightR r) : Calls Try.prog 11 #[rowV r] w fun e w' => ∃ u, e = .returned (.tuple #[u, .int .i64 0]) ∧ OwnB w.heap.size w' u (bytesR r) ∧ Kept w w' := by
  have H1 : Hid (∀ W, _) := fun W => valid9_any r W
  rw [decide_eq_true hr] at H1
  have H2 : Hid (∀ W, _) := fun W => numbers_any r W
  have HI : Hid _ := idx5 r
  have HR : Hid _ := hr
  obtain ⟨V, eV⟩ : ∃ V, V = fiveV r := ⟨_, rfl⟩
  rw [← eV] at H2 HI
  have HK : Hid _ := hr.1
  have HT : Hid _ := bytesR_five r
  have HBS : Hid _ := hr.2.2.2.2.2.2
  have hk1 : 0 ≤ r.kind := by have := hr.1; omega
  have hk2 : r.kind ≤ 255 := by have := hr.1; omega
  generalize bytesR r = T at HT ⊢
  unfold rowV at *
  clear hr eV
  go_enter Try.func11, Try.ntmps11
  go_wp2_with fail
  refine Calls.mono (H1.out _) ?_
  rintro e w1 ⟨rfl, k1⟩
  have b1 := (k1.block w.heap.size (by simp [World.size_alloc]) (fun h => h)).trans (heap_new w _)
  obtain ⟨⟨c0, c1, c2, c3, c4, c5, c6⟩, -⟩ := row_obj b1
  have hlt := lt_of_heap b1
  have B1 : Hid _ := b1
  have K1 : Hid (Kept w w1) := ((Same.refl _ w).alloc _).trans' k1
  clear k1 b1
  go_wp2_with fail
  have O1 : Hid _ := own_one w1 r.kind
  refine Calls.mono (H2.out _) ?_
  rintro e w2 ⟨rfl, k2⟩
  have b2 := (k2.block _ (by rw [World.size_alloc]; exact Nat.lt_succ_of_lt hlt) (fun h => h)).trans ((heap_old w1 _ hlt).trans B1.out)
  have B2 : Hid _ := b2
  have K2 : Hid (Kept w w2) := Same.trans' (K1.out.alloc _) k2
  have O2 : Hid (OwnB w.heap.size w2 (.slice (some ⟨w1.heap.size, 0, none⟩) 1 1) (r.kind :: forms ((five r).take 0))) := (OwnB.kept O1.out k2 (fun _ _ h => h)).lower (by omega)
  clear k2 c0 c1 c2 c3 c4 c5 c6 b2 O1
  have h22 := lt_of_heap B2.out
  go_wp2_with fail
  go_loopw [4, 16] (fun u i wr => ∃ j : Nat, i = .int .i64 j ∧ j ≤ 5 ∧ OwnB w.heap.size wr u (r.kind :: forms ((five r).take j)) ∧ Kept w wr ∧ Kept w2 wr) (fun _ i _ => 5 - (intOf i).toNat)
  case atStart => exact ⟨0, rfl, by omega, O2.out, K2.out, Same.refl _ _⟩
  case round =>
    obtain ⟨j, rfl, hj, oo, kk, kk2⟩ := hrel
    have OO : Hid _ := oo
    have KK : Hid _ := kk
    have KK2 : Hid _ := kk2
    clear oo kk kk2
    have hl := five_take_len HR.out j
    by_cases hlt : j < 5
    · have d1 : decide ((j : Int) < 5) = true := decide_eq_true (by omega)
      have hlt2 : (j : Int) < 5 := by omega
      obtain ⟨x, hx⟩ : ∃ x, (five r)[j]? = some x := ⟨_, List.getElem?_eq_getElem hlt⟩
      have hxr := five_right HR.out (List.mem_of_getElem? hx)
      obtain ⟨k, ek⟩ : ∃ k : Nat, k = x.toNat := ⟨_, rfl⟩
      have exk : x = (k : Int) := by omega
      have hix := HI.out j x hx
      rw [exk] at hix
      have hf := forms_next9 hx
      rw [← ek] at hf
      have HF : Hid _ := hf
      have HC : Hid _ := append9 OO.out k (by simp only [List.length_cons]; omega) (by omega) KK.out.size
      clear hx hxr ek exk hf hl
      go_wp2_with fail
      refine Calls.mono HC.out ?_
      rintro e w4 ⟨v4, rfl, o4, s4⟩
      have S4 : Hid (Kept w w4) := KK.out.trans' s4
      have T4 : Hid (Kept w2 w4) := KK2.out.trans' s4
      have O4 : Hid _ := o4
      clear o4 s4
      go_wp2_with fail
      go_roundw
      case rel => exact ⟨j + 1, by congr 1, hlt, by rw [HF.out]; exact O4.out, S4.out, T4.out⟩
      case measure => simp only [intOf]; omega
    · obtain rfl : j = 5 := by omega
      rw [show ((5 : Nat) : Int) = 5 from rfl]
      have d1 : decide ((5 : Int) < 5) = false := rfl
      have h88 : (five r).take 5 = five r := List.take_of_length_le (Nat.le_refl _)
      rw [h88] at OO hl
      have b3 := (KK2.out.block _ (lt_of_heap B2.out) (fun h => h)).trans B2.out
      obtain ⟨⟨-, -, -, -, -, -, c6⟩, -⟩ := row_obj b3
      have hlt3 := lt_of_heap b3
      have HC : Hid _ := appendText9 OO.out r.body (by have := HBS.out; simp only [List.length_cons]; omega) KK.out.size
      clear h88 b3 hl
      go_wp2_with fail
      refine Calls.mono HC.out ?_
      rintro e w4 ⟨v4, rfl, o4, s4⟩
      have O4 : Hid _ := o4
      have S4 : Hid (Kept w w4) := KK.out.trans' s4
      clear o4 s4
      go_wp2_with fail
      go_ret2
      exact ⟨v4, rfl, by rw [HT.out]; exact O4.out, S4.out⟩
end Go.Proofs.Ytcbllejjiokmbaa
