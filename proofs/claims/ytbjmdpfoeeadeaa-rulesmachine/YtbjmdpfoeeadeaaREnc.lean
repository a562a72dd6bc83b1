/- What is proved: Size and Encode of a transaction that lies in memory, right or not; no condition. -/
import Derived.Test.YtbjmdpfoeeadeaaRVal
namespace Go.Proofs.Ytbjmdpfoeeadeaa
open Go.RowKit

/-- What an append leaves: the row with the new bytes behind it; of what was there nothing turned but the row's own block. -/
def AppK (base : Nat) (w : World) (v : Value) (ys : List Int) (v' : Value) (w' : World) : Prop := OwnB base w' v' ys ∧ Same (fun k => v.ownBlock = some k) w w' ∧ ∀ k, v'.ownBlock = some k → v.ownBlock = some k ∨ w.heap.size ≤ k
theorem AppK.old {base : Nat} {w w0 : World} {v : Value} {ys : List Int} {v' : Value} {w' : World} (h : AppK base w0 v ys v' w') (k : Kept w w0) : AppK base w v ys v' w' :=
  ⟨h.1, (Kept.to k _).trans' h.2.1, fun i hi => (h.2.2 i hi).imp id (fun q => Nat.le_trans k.size q)⟩
theorem app_bytesK {w : World} {base : Nat} {v : Value} {xs l : List Int} {oa : Option Addr} {c : Nat} (hown : OwnB base w v xs) (hl : BytesAt w oa l) (hnil : oa = none → l.length = 0 ∧ c = 0) (hb : xs.length + l.length ≤ 140737488355328) (hbase : base ≤ w.heap.size) (ty : TypeId) :
    ∃ v' w', (Builtin.append_ #[71, 71] ty #[v, .slice oa l.length c]).run Try.prog w = .ok v' w' ∧ AppK base w v (xs ++ l) v' w' := by
  obtain ⟨i0, hi0, hz0, hz1, hz2⟩ := info_parts Try.infoByte
  cases oa with
  | none =>
    obtain ⟨h0, rfl⟩ := hnil rfl
    obtain rfl : l = [] := List.eq_nil_of_length_eq_zero h0
    refine ⟨v, w, run_append_owned_none (P := Try.prog) (w := w) base 71 ty 5 i0 1 Try.underlying71 hi0 v xs.length _ hown, ?_, Same.refl _ _, fun _ h => .inl h⟩
    simpa using hown
  | some ad =>
    obtain ⟨v', w', hr, r1, r2, _, r3⟩ := run_append_own_at (P := Try.prog) (w := w) base 71 ty 5 i0 _ 1 1 Try.underlying71 hi0 hz0 hz1 hz2 rfl (by decide) v xs.length _ hown ad l.length c (byt l) (by rw [length_byt, Nat.mul_one])
      (fun j u hu => by
        rw [byt_get] at hu
        obtain ⟨x, hx, rfl⟩ := Option.map_eq_some_iff.1 hu
        obtain ⟨b', off', e, _, hc⟩ := hl _ _ hx
        cases e
        rw [Addr.add_lit]
        exact hc) (byt_one _) (by unfold maxLen; omega) (by omega) hbase
    rw [← byt_append] at r1
    refine ⟨v', w', hr, by rw [OwnB, List.length_append]; exact r1, Same.of_grown r2 (fun k e => e), fun k hk => ?_⟩
    rcases r3 with e | e
    · exact .inl (e ▸ hk)
    · rw [e] at hk
      cases hk
      exact .inr (Nat.le_refl _)
theorem app_oneK {w : World} {base : Nat} {v : Value} {xs : List Int} (x : Int) (hown : OwnB base w v xs) (hb : xs.length + 1 ≤ 140737488355328) (hbase : base ≤ w.heap.size) (ty : TypeId) :
    ∃ v' w', (Builtin.append_ #[71, 71] ty #[v, .slice (some ⟨w.heap.size, 0, none⟩) 1 1]).run Try.prog (w.alloc (.cells #[.int .u8 x] 5)) = .ok v' w' ∧ AppK base w v (xs ++ [x]) v' w' := by
  obtain ⟨v', w', h1, h2⟩ := app_bytesK (c := 1) (hown.kept ((Same.refl (fun _ => False) w).alloc (.cells #[.int .u8 x] 5)) (fun _ _ h => h)) (bytes_new w [x]) (fun e => by cases e) hb (by simp; omega) ty
  exact ⟨v', w', h1, h2.old ((Same.refl _ w).alloc _)⟩

set_option maxRecDepth 100000 in
theorem putNumber_any {base : Nat} {w : World} {v : Value} {xs : List Int} (n : Nat) (hn : n ≤ 72057594037927935) (ho : OwnB base w v xs) (hb : xs.length + 8 ≤ 140737488355328) (hbase : base ≤ w.heap.size) :
    Calls Try.prog 53 #[v, .int .i64 (n : Int)] w fun e w' => ∃ v', e = .returned v' ∧ AppK base w v (xs ++ form n) v' w' := by
  have h8 := form8 hn
  have H1 : Hid _ := append_any w none 0 [] n (BytesAt.nil _ _) (fun _ => ⟨rfl, rfl⟩) (by decide) hn
  rw [List.nil_append] at H1
  have H2 : Hid (∀ W u a c, Kept w W → u = .slice a (form n).length c → BytesAt W a (form n) → (a = none → (form n).length = 0 ∧ c = 0) → ∀ ty, ∃ v' w', (Builtin.append_ #[71, 71] ty #[v, u]).run Try.prog W = .ok v' w' ∧ AppK base w v (xs ++ form n) v' w') := fun W u a c k hu hd hn ty => by
    subst hu
    obtain ⟨v', w', h1, h2⟩ := app_bytesK (ho.kept k (fun _ _ h => h)) hd hn (by omega) (Nat.le_trans hbase k.size) ty
    exact ⟨v', w', h1, h2.old k⟩
  clear ho hb hbase h8 hn
  go_enter Try.func53, Try.ntmps53
  go_wp2_with fail
  refine Calls.mono H1.out ?_
  rintro e w1 ⟨v1, rfl, o1, k1⟩
  obtain ⟨a, c, rfl, hd, -, hnil, -, -⟩ := OwnB.bytes o1
  have HA : Hid _ := H2.out _ _ a c k1 rfl hd hnil
  clear H2 o1 hd hnil k1
  go_wp2_with (at_builtin; refine wpList_app rfl (.tmp 12) (.tmp 13) 71 71 rfl _ _ rfl rfl _ HA.out ?_; rintro v2 w2 h2)
  go_ret
  exact ⟨_, rfl, h2⟩
set_option maxRecDepth 100000 in
theorem putText_any {base : Nat} {w : World} {v : Value} {xs : List Int} (s : ByteArray) (hs : s.size ≤ 16) (ho : OwnB base w v xs) (hb : xs.length + 24 ≤ 140737488355328) (hbase : base ≤ w.heap.size) :
    Calls Try.prog 55 #[v, .string s] w fun e w' => ∃ v', e = .returned v' ∧ AppK base w v (xs ++ encT s) v' w' := by
  have h8 : (form s.size).length ≤ 8 := form8 (by omega)
  have hl := encT_len s
  have H1 : Hid _ := appendText_any w none 0 [] s (BytesAt.nil _ _) (fun _ => ⟨rfl, rfl⟩) (by simp; omega)
  have ee : ([] : List Int) ++ form s.size ++ nums s = encT s := rfl
  rw [ee] at H1
  have H2 : Hid (∀ W u a c, Kept w W → u = .slice a (encT s).length c → BytesAt W a (encT s) → (a = none → (encT s).length = 0 ∧ c = 0) → ∀ ty, ∃ v' w', (Builtin.append_ #[71, 71] ty #[v, u]).run Try.prog W = .ok v' w' ∧ AppK base w v (xs ++ encT s) v' w') := fun W u a c k hu hd hn ty => by
    subst hu
    obtain ⟨v', w', h1, h2⟩ := app_bytesK (ho.kept k (fun _ _ h => h)) hd hn (by omega) (Nat.le_trans hbase k.size) ty
    exact ⟨v', w', h1, h2.old k⟩
  clear ho hb hbase h8 hs hl ee
  go_enter Try.func55, Try.ntmps55
  go_wp2_with fail
  refine Calls.mono H1.out ?_
  rintro e w1 ⟨v1, rfl, o1, k1⟩
  obtain ⟨a, c, rfl, hd, -, hnil, -, -⟩ := OwnB.bytes o1
  have HA : Hid _ := H2.out _ _ a c k1 rfl hd hnil
  clear H2 o1 hd hnil k1
  go_wp2_with (at_builtin; refine wpList_app rfl (.tmp 12) (.tmp 13) 71 71 rfl _ _ rfl rfl _ HA.out ?_; rintro v2 w2 h2)
  go_ret
  exact ⟨_, rfl, h2⟩
set_option maxRecDepth 100000 in
set_option maxHeartbeats 800000 in
theorem tag_any (o : OpM) (w : World) : Calls Try.prog 54 #[opV o] w fun e w' => e = .returned (.int .u8 (tagO o : Int)) ∧ Kept w w' := by
  obtain ⟨kind, key, found, value⟩ := o
  unfold opV tagO
  simp only
  by_cases h2 : kind = 2
  · subst h2
    rw [if_pos rfl]
    go_enter Try.func54, Try.ntmps54
    go_wp2_with fail
    go_ret
    exact ⟨rfl, (Same.refl _ w).alloc _⟩
  rw [if_neg h2]
  have d2 : (kind == 2) = false := by simpa using h2
  by_cases h3 : kind = 3
  · subst h3
    rw [if_pos rfl]
    go_enter Try.func54, Try.ntmps54
    go_wp2_with fail
    go_ret
    exact ⟨rfl, (Same.refl _ w).alloc _⟩
  rw [if_neg h3]
  have d3 : (kind == 3) = false := by simpa using h3
  clear h2 h3
  cases found
  all_goals
    go_enter Try.func54, Try.ntmps54
    go_wp2_with fail
    go_ret
    exact ⟨rfl, (Same.refl _ w).alloc _⟩
set_option maxRecDepth 100000 in
theorem textSize_any (s : ByteArray) (hs : s.size ≤ 16) (w : World) : Calls Try.prog 68 #[.string s] w fun e w' => e = .returned (.int .i64 ((encT s).length : Int)) ∧ w' = w := by
  have h8 : (form s.size).length ≤ 8 := form8 (by omega)
  have H1 : Hid (∀ W, _) := fun W => size_any s.size W (by omega)
  rw [encT_len]
  obtain ⟨n, en⟩ : ∃ n, n = s.size := ⟨_, rfl⟩
  rw [← en] at H1 h8 hs ⊢
  have hsz : s.size = n := en.symm
  clear en
  obtain ⟨F, eF⟩ : ∃ F, F = (form n).length := ⟨_, rfl⟩
  rw [← eF] at H1 h8 ⊢
  obtain ⟨R, eR⟩ : ∃ R, R = F + n := ⟨_, rfl⟩
  have hR : (F : Int) + (n : Int) = (R : Int) := by omega
  have hR2 : (R : Int) ≤ 1000 := by omega
  rw [← eR]
  clear eF eR
  go_enter Try.func68, Try.ntmps68
  go_wp2_with fail
  refine Calls.mono (H1.out _) ?_
  rintro e w1 ⟨rfl, rfl⟩
  go_wp2_with fail
  go_ret
  exact ⟨rfl, rfl⟩
/-- The numbers that a body begins with, as an array. -/
def hdV (t : TxM) : Value := .agg #[.int .i64 t.f0, .int .i64 t.f1, .int .i64 t.f2, .int .i64 t.f3, .int .i64 t.f4, .int .i64 t.f5, .int .i64 t.f6, .int .i64 (t.ops.length : Int)]
theorem loadVar_arr {w : World} {b : Nat} {a0 a1 a2 a3 a4 a5 a6 a7 : Int} (h : w.heap[b]? = some (.cells #[.int .i64 a0, .int .i64 a1, .int .i64 a2, .int .i64 a3, .int .i64 a4, .int .i64 a5, .int .i64 a6, .int .i64 a7] 97 (0, 0))) :
    (loadVar 97 ⟨b, 0, none⟩).run Try.prog w = .ok (.agg #[.int .i64 a0, .int .i64 a1, .int .i64 a2, .int .i64 a3, .int .i64 a4, .int .i64 a5, .int .i64 a6, .int .i64 a7]) w := by
  have c0 : w.cell? ⟨b, 0, none⟩ = some (.int .i64 a0) := (cell_of h 0).trans rfl
  have c1 : w.cell? ⟨b, 1, none⟩ = some (.int .i64 a1) := (cell_of h 1).trans rfl
  have c2 : w.cell? ⟨b, 2, none⟩ = some (.int .i64 a2) := (cell_of h 2).trans rfl
  have c3 : w.cell? ⟨b, 3, none⟩ = some (.int .i64 a3) := (cell_of h 3).trans rfl
  have c4 : w.cell? ⟨b, 4, none⟩ = some (.int .i64 a4) := (cell_of h 4).trans rfl
  have c5 : w.cell? ⟨b, 5, none⟩ = some (.int .i64 a5) := (cell_of h 5).trans rfl
  have c6 : w.cell? ⟨b, 6, none⟩ = some (.int .i64 a6) := (cell_of h 6).trans rfl
  have c7 : w.cell? ⟨b, 7, none⟩ = some (.int .i64 a7) := (cell_of h 7).trans rfl
  clear h
  go_simp
set_option maxRecDepth 100000 in
set_option maxHeartbeats 800000 in
theorem head_any (t : TxM) (a : Option Addr) (c : Nat) (w : World) : Calls Try.prog 52 #[txV t (.slice a t.ops.length c)] w fun e w' => e = .returned (hdV t) ∧ Kept w w' := by
  unfold txV hdV
  go_enter Try.func52, Try.ntmps52
  go_wp2_with fail
  refine bodyPost_ret (results_c (a := 2) (t := 97) rfl rfl (loadVar_arr ?_)) rfl ⟨rfl, ((Same.refl _ w).alloc _).alloc _⟩
  exact (two_new w _ _).2
theorem idx8a (a0 a1 a2 a3 a4 a5 a6 a7 : Int) (w : World) : (Instr.index 97 (.agg #[.int .i64 a0, .int .i64 a1, .int .i64 a2, .int .i64 a3, .int .i64 a4, .int .i64 a5, .int .i64 a6, .int .i64 a7]) (.int .i64 0)).run Try.prog w = .ok (.int .i64 a0) w ∧ (Instr.index 97 (.agg #[.int .i64 a0, .int .i64 a1, .int .i64 a2, .int .i64 a3, .int .i64 a4, .int .i64 a5, .int .i64 a6, .int .i64 a7]) (.int .i64 1)).run Try.prog w = .ok (.int .i64 a1) w ∧ (Instr.index 97 (.agg #[.int .i64 a0, .int .i64 a1, .int .i64 a2, .int .i64 a3, .int .i64 a4, .int .i64 a5, .int .i64 a6, .int .i64 a7]) (.int .i64 2)).run Try.prog w = .ok (.int .i64 a2) w ∧ (Instr.index 97 (.agg #[.int .i64 a0, .int .i64 a1, .int .i64 a2, .int .i64 a3, .int .i64 a4, .int .i64 a5, .int .i64 a6, .int .i64 a7]) (.int .i64 3)).run Try.prog w = .ok (.int .i64 a3) w ∧ (Instr.index 97 (.agg #[.int .i64 a0, .int .i64 a1, .int .i64 a2, .int .i64 a3, .int .i64 a4, .int .i64 a5, .int .i64 a6, .int .i64 a7]) (.int .i64 4)).run Try.prog w = .ok (.int .i64 a4) w ∧ (Instr.index 97 (.agg #[.int .i64 a0, .int .i64 a1, .int .i64 a2, .int .i64 a3, .int .i64 a4, .int .i64 a5, .int .i64 a6, .int .i64 a7]) (.int .i64 5)).run Try.prog w = .ok (.int .i64 a5) w ∧ (Instr.index 97 (.agg #[.int .i64 a0, .int .i64 a1, .int .i64 a2, .int .i64 a3, .int .i64 a4, .int .i64 a5, .int .i64 a6, .int .i64 a7]) (.int .i64 6)).run Try.prog w = .ok (.int .i64 a6) w ∧ (Instr.index 97 (.agg #[.int .i64 a0, .int .i64 a1, .int .i64 a2, .int .i64 a3, .int .i64 a4, .int .i64 a5, .int .i64 a6, .int .i64 a7]) (.int .i64 7)).run Try.prog w = .ok (.int .i64 a7) w :=
  ⟨by kernel_rfl, by kernel_rfl, by kernel_rfl, by kernel_rfl, by kernel_rfl, by kernel_rfl, by kernel_rfl, by kernel_rfl⟩
theorem idx8 (a0 a1 a2 a3 a4 a5 a6 a7 : Int) (w : World) (j : Nat) (x : Int) (h : ([a0, a1, a2, a3, a4, a5, a6, a7] : List Int)[j]? = some x) : (Instr.index 97 (.agg #[.int .i64 a0, .int .i64 a1, .int .i64 a2, .int .i64 a3, .int .i64 a4, .int .i64 a5, .int .i64 a6, .int .i64 a7]) (.int .i64 (j : Int))).run Try.prog w = .ok (.int .i64 x) w := by
  obtain ⟨q0, q1, q2, q3, q4, q5, q6, q7⟩ := idx8a a0 a1 a2 a3 a4 a5 a6 a7 w
  match j, h with
  | 0, h => cases h; exact q0
  | 1, h => cases h; exact q1
  | 2, h => cases h; exact q2
  | 3, h => cases h; exact q3
  | 4, h => cases h; exact q4
  | 5, h => cases h; exact q5
  | 6, h => cases h; exact q6
  | 7, h => cases h; exact q7
  | n + 8, h => simp at h
theorem heads_index (t : TxM) (j : Nat) (x : Int) (h : (heads t)[j]? = some x) (w : World) : (Instr.index 97 (hdV t) (.int .i64 (j : Int))).run Try.prog w = .ok (.int .i64 x) w := idx8 _ _ _ _ _ _ _ _ w j x h
theorem heads_right {t : TxM} (h : Right t) {x : Int} (hx : x ∈ heads t) : 0 ≤ x ∧ x ≤ 1099511627776 := by
  obtain ⟨⟨h0, h1, h2, h3, h4, h5, h6⟩, hn, -⟩ := h
  unfold inB at h0 h1 h2 h3 h4 h5 h6
  simp only [heads, List.mem_cons, List.not_mem_nil, or_false] at hx
  rcases hx with rfl | rfl | rfl | rfl | rfl | rfl | rfl | rfl <;> omega
theorem forms_append (a b : List Int) : forms (a ++ b) = forms a ++ forms b := by
  induction a with
  | nil => rfl
  | cons x r ih => simp only [List.cons_append, forms, ih, List.append_assoc]
theorem forms_next {l : List Int} {j : Nat} {x : Int} (h : l[j]? = some x) : forms (l.take (j + 1)) = forms (l.take j) ++ form x.toNat := by
  rw [List.take_add_one, h, forms_append]
  simp [forms]
theorem encOs_append (a b : List OpM) : encOs (a ++ b) = encOs a ++ encOs b := by
  induction a with
  | nil => rfl
  | cons x r ih => simp only [List.cons_append, encOs, ih, List.append_assoc]
theorem encOs_next {l : List OpM} {j : Nat} {o : OpM} (h : l[j]? = some o) : encOs (l.take (j + 1)) = encOs (l.take j) ++ encO o := by
  rw [List.take_add_one, h, encOs_append]
  simp [encOs]
theorem forms_len {l : List Int} (h : ∀ x ∈ l, x ≤ 1099511627776) : (forms l).length ≤ 8 * l.length := by
  induction l with
  | nil => simp [forms]
  | cons x r ih =>
    have a := ih (fun y hy => h y (by simp [hy]))
    have b : (form x.toNat).length ≤ 8 := form8 (by have := h x (by simp); omega)
    simp only [forms, List.length_append, List.length_cons]
    omega
theorem heads_len (t : TxM) : (heads t).length = 8 := rfl
theorem forms_take_len {t : TxM} (h : Right t) (j : Nat) : (forms ((heads t).take j)).length ≤ 64 := by
  have := forms_len (l := (heads t).take j) (fun x hx => (heads_right h (List.mem_of_mem_take hx)).2)
  have h8 := heads_len t
  rw [List.length_take] at this
  omega
theorem encOs_take_len {l : List OpM} (h : ∀ o ∈ l, rightO o) (hn : l.length ≤ 16) (j : Nat) : (encOs (l.take j)).length ≤ 432 := by
  have := encOs_len (l := l.take j) (fun o ho => h o (List.mem_of_mem_take ho))
  rw [List.length_take] at this
  omega
set_option maxRecDepth 100000 in
theorem size_wrong (w : World) (t : TxM) (v : Value) (h : TxA w t v) (hv : valid t ≠ 0) : Calls Try.prog 51 #[v] w fun e w' => e = .returned (.int .i64 0) ∧ Kept w w' := by
  have H1 : Hid (∀ W, Kept w W → _) := fun W (k : Kept w W) => valid_any W t v (h.on k)
  obtain ⟨a, c, rfl, -⟩ := h
  unfold txV at *
  have hd : (valid t != 0) = true := by simpa using hv
  generalize valid t = z at H1 hd
  clear hv
  go_enter Try.func51, Try.ntmps51
  go_wp2_with fail
  refine Calls.mono (H1.out _ ((Same.refl _ w).alloc _)) ?_
  rintro e w1 ⟨rfl, k1⟩
  have K1 : Hid (Kept w w1) := ((Same.refl _ w).alloc _).trans' k1
  clear k1
  go_wp2_with fail
  go_ret
  exact ⟨rfl, K1.out⟩
set_option maxRecDepth 100000 in
set_option maxHeartbeats 3200000 in
theorem size_ok (w : World) (t : TxM) (v : Value) (h : TxA w t v) (hr : Right t) : Calls Try.prog 51 #[v] w fun e w' => e = .returned (.int .i64 ((body t).length : Int)) ∧ Kept w w' := by
  have H1 : Hid (∀ W, Kept w W → _) := fun W (k : Kept w W) => valid_any W t v (h.on k)
  rw [valid_zero.2 hr] at H1
  obtain ⟨a, c, rfl, ho⟩ := h
  have H2 : Hid (∀ W, _) := fun W => head_any t a c W
  have HR : Hid _ := hr
  have HO : Hid _ := ho
  obtain ⟨n, en⟩ : ∃ n, n = t.ops.length := ⟨_, rfl⟩
  have EN : Hid _ := en
  have hn16 : n ≤ 16 := by rw [en]; exact hr.2.1
  have HT : Hid (∀ s : ByteArray, s.size ≤ 16 → ∀ W, _) := fun s (hs : s.size ≤ 16) W => textSize_any s hs W
  have HS : Hid (∀ k : Nat, k ≤ 1099511627776 → ∀ W, _) := fun k (hk : k ≤ 1099511627776) W => size_any k W (by omega)
  unfold txV at *
  rw [← en] at H1 H2 ⊢
  clear hr ho en
  go_enter Try.func51, Try.ntmps51
  go_wp2_with fail
  refine Calls.mono (H1.out _ ((Same.refl _ w).alloc _)) ?_
  rintro e w1 ⟨rfl, k1⟩
  have b1 := (k1.block w.heap.size (by simp [World.size_alloc]) (fun h => h)).trans (heap_new w _)
  obtain ⟨⟨c0, c1, c2, c3, c4, c5, c6, c7⟩, -⟩ := tx_obj b1
  have B1 : Hid _ := b1
  have K1 : Hid (Kept w w1) := ((Same.refl _ w).alloc _).trans' k1
  clear k1 b1
  go_wp2_with fail
  refine Calls.mono (H2.out _) ?_
  rintro e w2 ⟨rfl, k2⟩
  have b2 := (k2.block _ (lt_of_heap B1.out) (fun h => h)).trans B1.out
  have K2 : Hid (Kept w w2) := Same.trans' K1.out k2
  have B2 : Hid _ := b2
  clear k2 b2 c0 c1 c2 c3 c4 c5 c6 c7
  go_wp2_with fail
  go_loopw [3, 13] (fun s i wr => ∃ j : Nat, i = .int .i64 j ∧ j ≤ 8 ∧ s = .int .i64 ((forms ((heads t).take j)).length : Int) ∧ wr = w2) (fun _ i _ => 8 - (intOf i).toNat)
  case atStart => exact ⟨0, rfl, by omega, rfl, rfl⟩
  case round =>
    obtain ⟨j, rfl, hj, rfl, rfl⟩ := hrel
    by_cases hlt : j < 8
    · have d1 : decide ((j : Int) < 8) = true := decide_eq_true (by omega)
      have hlt2 : (j : Int) < 8 := by omega
      obtain ⟨x, hx⟩ : ∃ x, (heads t)[j]? = some x := ⟨_, List.getElem?_eq_getElem (by rw [heads_len]; exact hlt)⟩
      have hxr := heads_right HR.out (List.mem_of_getElem? hx)
      obtain ⟨k, ek⟩ : ∃ k : Nat, k = x.toNat := ⟨_, rfl⟩
      have exk : x = (k : Int) := by omega
      have hix := heads_index t j x hx
      rw [exk] at hix
      have hf := forms_next hx
      have hl := forms_take_len HR.out j
      have h8 : (form k).length ≤ 8 := form8 (by omega)
      rw [← ek] at hf
      have HF : Hid (((forms ((heads t).take (j + 1))).length : Int) = ((forms ((heads t).take j)).length : Int) + ((form k).length : Int)) := by
        show (_ : Int) = _
        rw [hf, List.length_append]
        omega
      have HC : Hid _ := HS.out k (by omega)
      generalize (forms ((heads t).take j)).length = S at hl HF ⊢
      generalize (form k).length = F at h8 HF HC
      have hS : (S : Int) + (F : Int) ≤ 1000 := by omega
      have hS0 : 0 ≤ (S : Int) + (F : Int) := by omega
      clear hx hxr ek exk hf
      go_wp2_with fail
      refine Calls.mono (HC.out _) ?_
      rintro e w3 ⟨rfl, rfl⟩
      go_wp2_with fail
      go_roundw
      case rel => exact ⟨j + 1, by congr 1, hlt, by rw [HF.out], trivial⟩
      case measure => simp only [intOf]; omega
    · obtain rfl : j = 8 := by omega
      rw [show ((8 : Nat) : Int) = 8 from rfl]
      have d1 : decide ((8 : Int) < 8) = false := rfl
      have h88 : (heads t).take 8 = heads t := List.take_of_length_le (by rw [heads_len]; exact Nat.le_refl _)
      rw [h88]
      have hl : (forms (heads t)).length ≤ 64 := by have := forms_take_len HR.out 8; rwa [h88] at this
      obtain ⟨⟨c0, c1, c2, c3, c4, c5, c6, c7⟩, -⟩ := tx_obj B2.out
      have HB : Hid ((body t).length = (forms (heads t)).length + (encOs t.ops).length) := by
        show (body t).length = _
        rw [body, List.length_append]
      generalize (forms (heads t)).length = S0 at hl HB ⊢
      clear h88
      go_wp2_with fail
      go_loopw [3, 24] (fun s i wr => ∃ j : Nat, i = .int .i64 j ∧ j ≤ n ∧ s = .int .i64 ((S0 + (encOs (t.ops.take j)).length : Nat) : Int) ∧ Kept w wr) (fun _ i _ => n - (intOf i).toNat)
      case atStart => exact ⟨0, rfl, Nat.zero_le _, rfl, K2.out⟩
      case round =>
        obtain ⟨j, rfl, hj, rfl, kk⟩ := hrel
        have KK : Hid _ := kk
        by_cases hlt : j < n
        · have e1 : decide ((j : Int) < (n : Int)) = true := decide_eq_true (by omega)
          have hlt2 : (j : Int) < (n : Int) := by omega
          obtain ⟨o, he⟩ : ∃ o, t.ops[j]? = some o := ⟨_, List.getElem?_eq_getElem (by rw [← EN.out]; exact hlt)⟩
          obtain ⟨b, off, rfl, hb, q0, q1, q2, q3⟩ := (OpsAt.on HO.out kk) j o he
          have hro := HR.out.2.2 o (List.mem_of_getElem? he)
          have hsl := encOs_take_len HR.out.2.2 HR.out.2.1 j
          have hnx := congrArg List.length (encOs_next he)
          rw [List.length_append] at hnx
          have hol := (encO_len hro).1
          have hks : o.key.size ≤ 16 := by have := hro.1; omega
          have hvs : o.value.size ≤ 16 := by have := hro.1; omega
          have HK : Hid _ := HT.out o.key hks
          have HV : Hid _ := HT.out o.value hvs
          have hlen : (encO o).length = 1 + (encT o.key).length + (if o.found then (encT o.value).length else 0) := by
            rw [encO, List.length_cons, List.length_append]
            by_cases hf : o.found = true
            · rw [if_pos hf, if_pos hf]; omega
            · rw [if_neg hf, if_neg hf, List.length_nil]; omega
          obtain ⟨kind, key, found, value⟩ := o
          try simp only at q0
          try simp only at q1
          try simp only at q2
          try simp only at q3
          try simp only at HK
          try simp only at HV
          try simp only at hlen
          generalize (encOs (t.ops.take j)).length = S at hsl hnx ⊢
          generalize (encT key).length = A at HK hlen
          generalize (encT value).length = V at HV hlen
          have HN : Hid ((encOs (t.ops.take (j + 1))).length = S + (encO ⟨kind, key, found, value⟩).length) := hnx
          have HL : Hid _ := hlen
          have hA : ((S0 + S : Nat) : Int) + (1 + (A : Int)) ≤ 10000 := by rw [hlen] at hol; split at hol <;> omega
          have hA0 : 0 ≤ ((S0 + S : Nat) : Int) + (1 + (A : Int)) := by omega
          have HAV : Hid (found = true → ((S0 + S : Nat) : Int) + (1 + (A : Int)) + (V : Int) ≤ 10000) := fun e => by rw [hlen, if_pos e] at hol; omega
          have hA1 : 1 + (A : Int) ≤ 10000 := by omega
          clear he hro hks hvs hnx hol hlen kk
          cases found with
          | false =>
            go_wp2_with fail
            refine Calls.mono (HK.out _) ?_
            rintro e w3 ⟨rfl, rfl⟩
            go_wp2_with fail
            go_roundw
            case rel =>
              refine ⟨j + 1, by congr 1, hlt, ?_, KK.out.alloc _⟩
              rw [HN.out, HL.out]
              simp
              omega
            case measure => simp only [intOf]; omega
          | true =>
            have hAV : ((S0 + S : Nat) : Int) + (1 + (A : Int)) + (V : Int) ≤ 10000 := HAV.out rfl
            have hAV0 : 0 ≤ ((S0 + S : Nat) : Int) + (1 + (A : Int)) + (V : Int) := by omega
            go_wp2_with fail
            refine Calls.mono (HK.out _) ?_
            rintro e w3 ⟨rfl, rfl⟩
            go_wp2_with fail
            refine Calls.mono (HV.out _) ?_
            rintro e w3 ⟨rfl, rfl⟩
            go_wp2_with fail
            go_roundw
            case rel =>
              refine ⟨j + 1, by congr 1, hlt, ?_, KK.out.alloc _⟩
              rw [HN.out, HL.out]
              simp
              omega
            case measure => simp only [intOf]; omega
        · obtain rfl : j = n := by omega
          have e1 : decide ((j : Int) < (j : Int)) = false := decide_eq_false (by omega)
          clear kk
          go_wp2_with fail
          go_ret
          have hE : (encOs (t.ops.take j)).length = (encOs t.ops).length := by rw [EN.out, List.take_length]
          exact ⟨by rw [HB.out, ← hE]; rfl, KK.out⟩
set_option maxRecDepth 100000 in
theorem encode_no (w : World) (t : TxM) (v : Value) (h : TxA w t v) (hv : valid t ≠ 0) : Calls Try.prog 32 #[v] w fun e w' => e = .returned (.tuple #[.slice none 0 0, .int .i64 (valid t)]) ∧ Kept w w' := by
  have H1 : Hid (∀ W, Kept w W → _) := fun W (k : Kept w W) => valid_any W t v (h.on k)
  obtain ⟨a, c, rfl, -⟩ := h
  unfold txV at *
  have hd : (valid t != 0) = true := by simpa using hv
  generalize valid t = z at H1 hd
  clear hv
  go_enter Try.func32, Try.ntmps32
  go_wp2_with fail
  refine Calls.mono (H1.out _ ((Same.refl _ w).alloc _)) ?_
  rintro e w1 ⟨rfl, k1⟩
  have K1 : Hid (Kept w w1) := ((Same.refl _ w).alloc _).trans' k1
  clear k1
  go_wp2_with fail
  go_ret2
  exact ⟨rfl, K1.out⟩
set_option maxRecDepth 100000 in
set_option maxHeartbeats 6400000 in
theorem encode_ok (w : World) (t : TxM) (v : Value) (h : TxA w t v) (hr : Right t) : Calls Try.prog 32 #[v] w fun e w' => ∃ u, e = .returned (.tuple #[u, .int .i64 0]) ∧ OwnB w.heap.size w' u (body t) ∧ Kept w w' := by
  have H1 : Hid (∀ W, Kept w W → _) := fun W (k : Kept w W) => valid_any W t v (h.on k)
  rw [valid_zero.2 hr] at H1
  have HZ : Hid (∀ W, Kept w W → _) := fun W (k : Kept w W) => size_ok W t v (h.on k) hr
  obtain ⟨a, c, rfl, ho⟩ := h
  have H2 : Hid (∀ W, _) := fun W => head_any t a c W
  have HR : Hid _ := hr
  have HO : Hid _ := ho
  obtain ⟨n, en⟩ : ∃ n, n = t.ops.length := ⟨_, rfl⟩
  have EN : Hid _ := en
  have hn16 : n ≤ 16 := by rw [en]; exact hr.2.1
  have hmk : ∀ W : World, _ := fun W => make_room W (body t).length (by have := (body_len hr).1; omega)
  unfold txV at *
  rw [← en] at H1 H2 HZ ⊢
  have HBD : Hid (body t = forms (heads t) ++ encOs t.ops) := rfl
  obtain ⟨Z, eZ⟩ : ∃ Z, Z = (body t).length := ⟨_, rfl⟩
  rw [← eZ] at HZ hmk
  have HZ464 : Hid (Z ≤ 464) := by rw [eZ]; exact (body_len hr).1
  clear hr ho en eZ
  go_enter Try.func32, Try.ntmps32
  go_wp2_with fail
  refine Calls.mono (H1.out _ ((Same.refl _ w).alloc _)) ?_
  rintro e w1 ⟨rfl, k1⟩
  have b1 := (k1.block w.heap.size (by simp [World.size_alloc]) (fun h => h)).trans (heap_new w _)
  obtain ⟨⟨c0, c1, c2, c3, c4, c5, c6, c7⟩, -⟩ := tx_obj b1
  have B1 : Hid _ := b1
  have K1 : Hid (Kept w w1) := ((Same.refl _ w).alloc _).trans' k1
  clear k1 b1
  go_wp2_with fail
  refine Calls.mono (HZ.out _ K1.out) ?_
  rintro e w2 ⟨rfl, k2⟩
  have b2 := (k2.block _ (lt_of_heap B1.out) (fun h => h)).trans B1.out
  have K2 : Hid (Kept w w2) := Same.trans' K1.out k2
  have B2 : Hid _ := b2
  have hb2 : w.heap.size < w2.heap.size := lt_of_heap b2
  clear k2 c0 c1 c2 c3 c4 c5 c6 c7
  obtain ⟨⟨c0, c1, c2, c3, c4, c5, c6, c7⟩, -⟩ := tx_obj b2
  clear b2
  have OW : Hid _ := own_made w2 Z (by have := HZ464.out; omega)
  go_wp2_with fail
  refine Calls.mono (H2.out _) ?_
  rintro e w3 ⟨rfl, k3⟩
  have K3 : Hid (Kept w2 w3) := ((Same.refl _ w2).alloc _).trans' k3
  have O3 : Hid (OwnB w2.heap.size w3 (.slice (some ⟨w2.heap.size, 0, none⟩) 0 Z) []) := OwnB.kept OW.out k3 (fun _ _ h => h)
  clear k3 c0 c1 c2 c3 c4 c5 c6 c7
  go_wp2_with fail
  go_loopw [5, 20] (fun u i wr => ∃ j : Nat, i = .int .i64 j ∧ j ≤ 8 ∧ OwnB w2.heap.size wr u (forms ((heads t).take j)) ∧ Kept w2 wr) (fun _ i _ => 8 - (intOf i).toNat)
  case atStart => exact ⟨0, rfl, by omega, O3.out, K3.out⟩
  case round =>
    obtain ⟨j, rfl, hj, oo, kk⟩ := hrel
    have OO : Hid _ := oo
    have KK : Hid _ := kk
    clear oo kk
    by_cases hlt : j < 8
    · have d1 : decide ((j : Int) < 8) = true := decide_eq_true (by omega)
      have hlt2 : (j : Int) < 8 := by omega
      obtain ⟨x, hx⟩ : ∃ x, (heads t)[j]? = some x := ⟨_, List.getElem?_eq_getElem (by rw [heads_len]; exact hlt)⟩
      have hxr := heads_right HR.out (List.mem_of_getElem? hx)
      obtain ⟨k, ek⟩ : ∃ k : Nat, k = x.toNat := ⟨_, rfl⟩
      have exk : x = (k : Int) := by omega
      have hix := heads_index t j x hx
      rw [exk] at hix
      have hf := forms_next hx
      rw [← ek] at hf
      have HF : Hid _ := hf
      have HC : Hid _ := putNumber_any (base := w2.heap.size) k (by omega) OO.out (by have := forms_take_len HR.out j; omega) KK.out.size
      clear hx hxr ek exk hf
      go_wp2_with fail
      refine Calls.mono HC.out ?_
      rintro e w4 ⟨v4, rfl, o4, s4, -⟩
      have S4 : Hid (Kept w2 w4) := KK.out.trans s4 (fun i hi e => by have := (OwnB.block OO.out e).1; omega)
      have O4 : Hid _ := o4
      clear o4 s4
      go_wp2_with fail
      go_roundw
      case rel => exact ⟨j + 1, by congr 1, hlt, by rw [HF.out]; exact O4.out, S4.out⟩
      case measure => simp only [intOf]; omega
    · obtain rfl : j = 8 := by omega
      rw [show ((8 : Nat) : Int) = 8 from rfl]
      have d1 : decide ((8 : Int) < 8) = false := rfl
      have h88 : (heads t).take 8 = heads t := List.take_of_length_le (by rw [heads_len]; exact Nat.le_refl _)
      rw [h88] at OO
      have HFL : Hid ((forms (heads t)).length ≤ 64) := by have := forms_take_len HR.out 8; rwa [h88] at this
      obtain ⟨⟨c0, c1, c2, c3, c4, c5, c6, c7⟩, -⟩ := tx_obj ((KK.out.block _ (lt_of_heap B2.out) (fun h => h)).trans B2.out)
      clear h88
      go_wp2_with fail
      go_loopw [5, 30] (fun u i wq => ∃ j : Nat, i = .int .i64 j ∧ j ≤ n ∧ OwnB w2.heap.size wq u (forms (heads t) ++ encOs (t.ops.take j)) ∧ Kept w2 wq) (fun _ i _ => n - (intOf i).toNat)
      case atStart => exact ⟨0, rfl, Nat.zero_le _, by rw [List.take_zero, encOs, List.append_nil]; exact OO.out, KK.out⟩
      case round =>
        obtain ⟨j, rfl, hj, oo, kk⟩ := hrel
        have OQ : Hid _ := oo
        have KQ : Hid _ := kk
        clear oo kk OO KK c0 c1 c2 c3 c4 c5 c6 c7
        by_cases hlt : j < n
        · have e1 : decide ((j : Int) < (n : Int)) = true := decide_eq_true (by omega)
          have hlt2 : (j : Int) < (n : Int) := by omega
          obtain ⟨o, he⟩ : ∃ o, t.ops[j]? = some o := ⟨_, List.getElem?_eq_getElem (by rw [← EN.out]; exact hlt)⟩
          obtain ⟨b, off, rfl, hb, q0, q1, q2, q3⟩ := (OpsAt.on HO.out (Same.trans' K2.out KQ.out)) j o he
          have hro := HR.out.2.2 o (List.mem_of_getElem? he)
          have HSL : Hid _ := encOs_take_len HR.out.2.2 HR.out.2.1 j
          have HNX : Hid _ := encOs_next he
          have HOL : Hid _ := (encO_len hro).1
          have HKS : Hid (o.key.size ≤ 16) := by have := hro.1; show _ ≤ 16; omega
          have HVS : Hid (o.value.size ≤ 16) := by have := hro.1; show _ ≤ 16; omega
          have HTG : Hid (∀ W, _) := fun W => tag_any o W
          have HEN : Hid (encO o = (tagO o : Int) :: (encT o.key ++ (if o.found then encT o.value else []))) := rfl
          unfold opV at HTG
          obtain ⟨kind, key, found, value⟩ := o
          try simp only at q0
          try simp only at q1
          try simp only at q2
          try simp only at q3
          try simp only at HTG
          try simp only at HKS
          try simp only at HVS
          try simp only at HEN
          generalize encO ⟨kind, key, found, value⟩ = EO at HNX HOL HEN
          generalize tagO ⟨kind, key, found, value⟩ = T at HTG HEN
          clear he hro
          go_wp2_with fail
          refine Calls.mono (HTG.out _) ?_
          rintro e w4 ⟨rfl, k4⟩
          have KA : Hid (Kept _ w4) := (Same.refl _ _).alloc _ |>.trans' k4
          have x4 := (k4.block _ (by rw [World.size_alloc]; exact Nat.lt_succ_self _) (fun h => h)).trans (heap_new _ _)
          have O4 : Hid _ := OwnB.kept OQ.out KA.out (fun _ _ h => h)
          have HAP : Hid (∀ ty, _) := fun ty => app_oneK (T : Int) O4.out (by have := HSL.out; have := HFL.out; rw [List.length_append]; omega) (Nat.le_trans KQ.out.size KA.out.size) ty
          have X4 : Hid _ := x4
          have HUX : Hid (¬ u5.ownBlock = some wr.heap.size) := fun e => by have := (OwnB.block OQ.out e).2; omega
          have hlt4 := lt_of_heap x4
          have HX5 : Hid (∀ ys v5 w5, AppK w2.heap.size w4 u5 ys v5 w5 → w5.heap[wr.heap.size]? = some (opO (.int .i64 kind) (.string key) (.bool found) (.string value)) ∧ ¬ v5.ownBlock = some wr.heap.size) := fun ys v5 w5 h =>
            ⟨(h.2.1.block _ (lt_of_heap X4.out) HUX.out).trans X4.out, fun e => by rcases h.2.2 _ e with q | q; exact HUX.out q; omega⟩
          clear k4 x4
          go_wp2_with (at_builtin; refine wpList_app rfl (.tmp 34) (.tmp 37) 71 71 rfl _ _ rfl rfl _ HAP.out ?_; rintro v5 w5 h5; have x5 := HX5.out _ _ _ h5; obtain ⟨⟨d0, d1, d2, d3⟩, -⟩ := op_obj x5.1; have X5 : Hid _ := x5; have H5 : Hid _ := h5; clear h5 x5)
          have K5 : Hid (Kept w2 w5) := (Same.trans' KQ.out KA.out).trans H5.out.2.1 (fun i hi e => by have := (OwnB.block OQ.out e).1; omega)
          refine Calls.mono (putText_any key HKS.out H5.out.1 (by have := HSL.out; have := HFL.out; simp only [List.length_append, List.length_cons, List.length_nil]; omega) K5.out.size) ?_
          rintro e w6 ⟨v6, rfl, h6⟩
          have x6 := (h6.2.1.block _ (lt_of_heap X5.out.1) X5.out.2).trans X5.out.1
          have n6 : ¬ v6.ownBlock = some wr.heap.size := fun e => by rcases h6.2.2 _ e with q | q; exact X5.out.2 q; have := lt_of_heap X5.out.1; omega
          have K6 : Hid (Kept w2 w6) := K5.out.trans h6.2.1 (fun i hi e => by have := (OwnB.block H5.out.1 e).1; omega)
          have H6 : Hid _ := h6
          clear d0 d1 d2 d3
          obtain ⟨⟨d0, d1, d2, d3⟩, -⟩ := op_obj x6
          clear h6 x6 n6
          cases found with
          | false =>
            go_wp2_with fail
            go_roundw
            case rel =>
              refine ⟨j + 1, by congr 1, hlt, ?_, K6.out⟩
              have := H6.out.1
              rw [HNX.out, HEN.out]
              simpa only [Bool.false_eq_true, if_false, List.append_nil, List.append_assoc, List.cons_append, List.nil_append] using this
            case measure => simp only [intOf]; omega
          | true =>
            go_wp2_with fail
            refine Calls.mono (putText_any value HVS.out H6.out.1 (by have := HSL.out; have := HFL.out; have := HKS.out; have := encT_len key; have : (form key.size).length ≤ 8 := form8 (by omega); simp only [List.length_append, List.length_cons, List.length_nil]; omega) K6.out.size) ?_
            rintro e w7 ⟨v7, rfl, h7⟩
            have K7 : Hid (Kept w2 w7) := K6.out.trans h7.2.1 (fun i hi e => by have := (OwnB.block H6.out.1 e).1; omega)
            have H7 : Hid _ := h7
            clear h7
            go_wp2_with fail
            go_roundw
            case rel =>
              refine ⟨j + 1, by congr 1, hlt, ?_, K7.out⟩
              have := H7.out.1
              rw [HNX.out, HEN.out]
              simpa only [if_true, List.append_assoc, List.cons_append, List.nil_append] using this
            case measure => simp only [intOf]; omega
        · obtain rfl : j = n := by omega
          have e1 : decide ((j : Int) < (j : Int)) = false := decide_eq_false (by omega)
          go_wp2_with fail
          go_ret2
          refine ⟨_, rfl, ?_, Same.trans' K2.out KQ.out⟩
          have := OQ.out
          rw [EN.out, List.take_length] at this
          exact OwnB.lower this (by omega)
end Go.Proofs.Ytbjmdpfoeeadeaa
