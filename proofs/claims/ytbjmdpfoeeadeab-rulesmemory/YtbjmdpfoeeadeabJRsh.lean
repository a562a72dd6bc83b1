/- What is proved: the document's Shape tells of a transaction, right or not, the same as the package's, in a list of its own; no condition. -/
import Derived.Test.YtbjmdpfoeeadeabJShp
import Derived.Test.YtbjmdpfoeeadeabRRVal
namespace Go.Proofs.Ytbjmdpfoeeadeab.Sw
open Go.RowKit

set_option maxRecDepth 100000 in
set_option maxHeartbeats 1600000 in
theorem radd17 {w : World} {base : Nat} (i kd tm fr tt : Int) {v : Value} {xs : List Vl} (ho : OwnL base w v xs) (hb : base ≤ w.heap.size) (hx : xs.length ≤ 4096) :
    Calls Try.prog 34 #[v, .int .i64 kd, .int .i64 i, .int .i64 tm, .int .i64 fr, .int .i64 tt] w fun e w' => ∃ v', e = .returned v' ∧ OwnL base w' v' (xs ++ [sv i kd tm fr tt]) ∧ Same (fun k => v.ownBlock = some k) w w' := by
  obtain ⟨a, m, cap, ev⟩ : ∃ a m cap, v = .slice a m cap := by
    obtain ⟨a, cap, ev, -⟩ := row_shape ho
    exact ⟨_, _, _, ev⟩
  have HAP : Hid (∀ ty, ∃ v' w', (Builtin.append_ #[28, 28] ty #[v, .slice (some ⟨w.heap.size, 0, none⟩) 1 1]).run Try.prog (w.alloc (vlO (sv i kd tm fr tt))) = .ok v' w' ∧ OwnL base w' v' (xs ++ [sv i kd tm fr tt]) ∧ Same (fun k => v.ownBlock = some k) w w') := fun ty => by
    have k : Kept w (w.alloc (vlO (sv i kd tm fr tt))) := (Same.refl _ w).alloc _
    obtain ⟨v', w', r1, r2, r3, r4⟩ := app_vl (sv i kd tm fr tt) (row_kept ho k (fun _ _ h => h)) (heap_new w _) hx (by rw [World.size_alloc]; omega) ty
    exact ⟨v', w', r1, r2, (Kept.to k _).trans' r3⟩
  subst ev
  clear ho
  go_enter Try.func34, Try.ntmps34
  go_wp2_with (at_builtin; apply Hid.out)
  refine Ch.wpList_app rfl (.tmp 13) (.tmp 20) 28 rfl (.slice a m cap) (.slice (some ⟨w.heap.size, 0, none⟩) 1 1) rfl rfl _ HAP.out ?_
  rintro v3 w3 ⟨o3, k3⟩
  obtain ⟨a3, m3, cap3, ev⟩ : ∃ a m cap, v3 = .slice a m cap := by
    obtain ⟨a, cap, ev, -⟩ := row_shape o3
    exact ⟨_, _, _, ev⟩
  subst ev
  have O3 : Hid (OwnL base w3 (.slice a3 m3 cap3) (xs ++ [sv i kd tm fr tt])) := o3
  have K3 : Hid (Same (fun k => (Value.slice a m cap).ownBlock = some k) w w3) := k3
  clear o3 k3
  go_wp2_with fail
  go_ret
  exact ⟨_, rfl, O3.out, K3.out⟩

/-- While the document's Shapes tells: its box, the list so far. -/
structure Rp (w W : World) (t : TxM) (a : Option Addr) (n c : Nat) (v : Value) (xs : List Vl) : Prop where
  bt : W.heap[w.heap.size]? = some (txO t a n c)
  li : OwnL w.heap.size W v xs
  kp : Kept w W
theorem Rp.cells {w W : World} {t : TxM} {a : Option Addr} {n c : Nat} {v : Value} {xs : List Vl} (h : Rp w W t a n c v xs) : w.heap.size < W.heap.size ∧ W.cell? ⟨w.heap.size, 2, none⟩ = some (.int .i64 t.f2) ∧ W.cell? ⟨w.heap.size, 3, none⟩ = some (.int .i64 t.f3) ∧ W.cell? ⟨w.heap.size, 4, none⟩ = some (.int .i64 t.f4) ∧ W.cell? ⟨w.heap.size, 5, none⟩ = some (.int .i64 t.f5) := by
  obtain ⟨⟨c0, c1, c2, c3, c4, c5, c6, c7⟩, -⟩ := tx_obj h.bt
  exact ⟨lt_of_heap h.bt, c2, c3, c4, c5⟩
theorem Rp.tell {w W : World} {t : TxM} {a : Option Addr} {n c : Nat} {v : Value} {xs : List Vl} (h : Rp w W t a n c v xs) (hx : xs.length ≤ 4096) (i kd tm fr tt : Int) :
    Calls Try.prog 34 #[v, .int .i64 kd, .int .i64 i, .int .i64 tm, .int .i64 fr, .int .i64 tt] W fun e w' => ∃ a' m' c', e = .returned (.slice a' m' c') ∧ Rp w w' t a n c (.slice a' m' c') (xs ++ [sv i kd tm fr tt]) := by
  refine (radd17 i kd tm fr tt h.li h.kp.size hx).mono ?_
  rintro e w' ⟨v', rfl, m2, m3⟩
  obtain ⟨a3, cap3, ev, -⟩ := row_shape m2
  subst ev
  have nb : ∀ k, v.ownBlock = some k → w.heap.size ≤ k ∧ k ≠ w.heap.size := fun k hk => by
    obtain ⟨hb, cur, hc⟩ := row_block h.li hk
    exact ⟨hb, fun e => types_ne (e ▸ hc) h.bt (by decide)⟩
  refine ⟨_, _, _, rfl, (m3.block _ (lt_of_heap h.bt) fun e => (nb _ e).2 rfl).trans h.bt, m2, h.kp.trans m3 fun k hk e => ?_⟩
  have := (nb _ e).1
  omega
set_option maxRecDepth 100000 in
set_option maxHeartbeats 3200000 in
theorem rShapes17 (i : Int) (t : TxM) (eps : Int) (a : Option Addr) (n c : Nat) (w : World) (hr : rightF t) (_ : 0 ≤ eps ∧ eps ≤ 1099511627776) :
    Calls Try.prog 21 #[.int .i64 i, txV t (.slice a n c), .int .i64 eps] w fun e w' => ∃ v, e = .returned v ∧ OwnL w.heap.size w' v (shp i t eps) ∧ Kept w w' := by
  obtain ⟨-, -, b2, b3, b4, b5, -⟩ := hr
  unfold inB at b2 b3 b4 b5
  have w1 : IntKind.i64.wrap (t.f4 - t.f2) = t.f4 - t.f2 := by rw [IntKind.wrap_i64] <;> omega
  have w2 : IntKind.i64.wrap (t.f3 - t.f5) = t.f3 - t.f5 := by rw [IntKind.wrap_i64] <;> omega
  have E1 : Hid (t.f3 ≤ t.f2 → sh1 i t = [sv i 1 t.f2 t.f2 t.f3]) := fun h => by unfold sh1; rw [if_neg (by omega)]
  have E1' : Hid (¬ t.f3 ≤ t.f2 → sh1 i t = []) := fun h => by unfold sh1; rw [if_pos (by omega)]
  have E2 : Hid (t.f5 < t.f4 → sh2 i t = [sv i 2 t.f2 t.f4 t.f5]) := fun h => by unfold sh2; rw [if_pos h]
  have E2' : Hid (¬ t.f5 < t.f4 → sh2 i t = []) := fun h => by unfold sh2; rw [if_neg h]
  have E3 : Hid (eps < t.f4 - t.f2 → sh3 i t eps = [sv i 3 t.f2 t.f4 t.f2]) := fun h => by unfold sh3; rw [if_pos (by omega)]
  have E3' : Hid (¬ eps < t.f4 - t.f2 → sh3 i t eps = []) := fun h => by unfold sh3; rw [if_neg (by omega)]
  have E4 : Hid (eps < t.f3 - t.f5 → sh4 i t eps = [sv i 4 t.f3 t.f3 t.f5]) := fun h => by unfold sh4; rw [if_pos (by omega)]
  have E4' : Hid (¬ eps < t.f3 - t.f5 → sh4 i t eps = []) := fun h => by unfold sh4; rw [if_neg (by omega)]
  have L1 := sh1_len i t
  have L2 := sh2_len i t
  have L3 := sh3_len i t eps
  have HW : Hid (∀ P : List Vl → Prop, P (sh1 i t ++ sh2 i t ++ sh3 i t eps ++ sh4 i t eps) → P (shp i t eps)) := fun P h => h
  have LL : Hid (_ ∧ _ ∧ _) := ⟨L1, L2, L3⟩
  generalize shp i t eps = R at *
  generalize sh1 i t = R1 at *
  generalize sh2 i t = R2 at *
  generalize sh3 i t eps = R3 at *
  generalize sh4 i t eps = R4 at *
  clear L1 L2 L3 b2 b3 b4 b5
  unfold txV
  go_enter Try.func21, Try.ntmps21
  go_upto_region 2 with fail
  have hcut : Rp w (w.alloc (txO t a n c)) t a n c (.slice none 0 0) [] := ⟨heap_new _ _, OwnL.nil _ _, (Same.refl _ w).alloc _⟩
  have e7 : Hid (∃ a' m' c', Value.slice none 0 0 = .slice a' m' c') := ⟨_, _, _, rfl⟩
  clear e7
  generalize w.alloc (txO t a n c) = wc at *
  obtain ⟨hl0, p2, p3, p4, p5⟩ := Rp.cells hcut
  have SA : Hid _ := hcut
  clear hcut
  go_upto_if 12 with fail
  go_cut [7, 21] (fun s7 _ wx => ∃ a' m' c', s7 = .slice a' m' c' ∧ Rp w wx t a n c (.slice a' m' c') (R1))
  case first =>
    by_cases h1 : t.f3 ≤ t.f2
    · have d1 : decide (t.f3 ≤ t.f2) = true := decide_eq_true h1
      go_wp2_with fail
      refine Calls.mono (Rp.tell SA.out (by have := LL.out; (try simp only [List.length_nil]); omega) i 1 t.f2 t.f2 t.f3) ?_
      rintro e W2 ⟨a', m', c', rfl, s2⟩
      have S2 : Hid _ := s2
      clear s2
      go_wp2_with fail
      go_meet
      rw [E1.out (by first | exact h1 | omega)]
      exact ⟨_, _, _, rfl, S2.out⟩
    · have d1 : decide (t.f3 ≤ t.f2) = false := decide_eq_false h1
      go_wp2_with fail
      go_meet
      rw [E1'.out (by first | exact h1 | omega)]
      exact ⟨_, _, _, rfl, SA.out⟩
  case rest =>
    obtain ⟨a7, m7, c7, rfl, hcut⟩ := hcut
    obtain ⟨hl0, p2, p3, p4, p5⟩ := Rp.cells hcut
    have SA : Hid _ := hcut
    clear hcut
    go_upto_if 26 with fail
    go_cut [7, 35] (fun s7 _ wx => ∃ a' m' c', s7 = .slice a' m' c' ∧ Rp w wx t a n c (.slice a' m' c') (R1 ++ R2))
    case first =>
      by_cases h1 : t.f5 < t.f4
      · have d1 : decide (t.f5 < t.f4) = true := decide_eq_true h1
        go_wp2_with fail
        refine Calls.mono (Rp.tell SA.out (by have := LL.out; (try simp only [List.length_append]); omega) i 2 t.f2 t.f4 t.f5) ?_
        rintro e W2 ⟨a', m', c', rfl, s2⟩
        have S2 : Hid _ := s2
        clear s2
        go_wp2_with fail
        go_meet
        rw [E2.out (by first | exact h1 | omega)]
        exact ⟨_, _, _, rfl, S2.out⟩
      · have d1 : decide (t.f5 < t.f4) = false := decide_eq_false h1
        go_wp2_with fail
        go_meet
        rw [E2'.out (by first | exact h1 | omega), List.append_nil]
        exact ⟨_, _, _, rfl, SA.out⟩
    case rest =>
      obtain ⟨a7, m7, c7, rfl, hcut⟩ := hcut
      obtain ⟨hl0, p2, p3, p4, p5⟩ := Rp.cells hcut
      have SA : Hid _ := hcut
      clear hcut
      go_upto_if 42 with fail
      go_cut [7, 51] (fun s7 _ wx => ∃ a' m' c', s7 = .slice a' m' c' ∧ Rp w wx t a n c (.slice a' m' c') (R1 ++ R2 ++ R3))
      case first =>
        by_cases h1 : eps < t.f4 - t.f2
        · have d1 : decide (eps < t.f4 - t.f2) = true := decide_eq_true h1
          go_wp2_with fail
          refine Calls.mono (Rp.tell SA.out (by have := LL.out; (try simp only [List.length_append]); omega) i 3 t.f2 t.f4 t.f2) ?_
          rintro e W2 ⟨a', m', c', rfl, s2⟩
          have S2 : Hid _ := s2
          clear s2
          go_wp2_with fail
          go_meet
          rw [E3.out (by first | exact h1 | omega)]
          exact ⟨_, _, _, rfl, S2.out⟩
        · have d1 : decide (eps < t.f4 - t.f2) = false := decide_eq_false h1
          go_wp2_with fail
          go_meet
          rw [E3'.out (by first | exact h1 | omega), List.append_nil]
          exact ⟨_, _, _, rfl, SA.out⟩
      case rest =>
        obtain ⟨a7, m7, c7, rfl, hcut⟩ := hcut
        obtain ⟨hl0, p2, p3, p4, p5⟩ := Rp.cells hcut
        have SA : Hid _ := hcut
        clear hcut
        go_upto_if 58 with fail
        go_cut [7, 67] (fun s7 _ wx => ∃ a' m' c', s7 = .slice a' m' c' ∧ Rp w wx t a n c (.slice a' m' c') (R1 ++ R2 ++ R3 ++ R4))
        case first =>
          by_cases h1 : eps < t.f3 - t.f5
          · have d1 : decide (eps < t.f3 - t.f5) = true := decide_eq_true h1
            go_wp2_with fail
            refine Calls.mono (Rp.tell SA.out (by have := LL.out; (try simp only [List.length_append]); omega) i 4 t.f3 t.f3 t.f5) ?_
            rintro e W2 ⟨a', m', c', rfl, s2⟩
            have S2 : Hid _ := s2
            clear s2
            go_wp2_with fail
            go_meet
            rw [E4.out (by first | exact h1 | omega)]
            exact ⟨_, _, _, rfl, S2.out⟩
          · have d1 : decide (eps < t.f3 - t.f5) = false := decide_eq_false h1
            go_wp2_with fail
            go_meet
            rw [E4'.out (by first | exact h1 | omega), List.append_nil]
            exact ⟨_, _, _, rfl, SA.out⟩
        case rest =>
          obtain ⟨a7, m7, c7, rfl, hcut⟩ := hcut
          have L2 : Hid _ := hcut.li
          have KP : Hid _ := hcut.kp
          clear hcut
          go_wp2_with fail
          go_ret
          exact ⟨_, rfl, HW.out (fun R => OwnL w.heap.size wc _ R) L2.out, KP.out⟩

set_option maxRecDepth 100000 in
set_option maxHeartbeats 3200000 in
theorem rShape17 (i : Int) (t : TxM) (eps : Int) (a : Option Addr) (c : Nat) (w : World) (ht : ∀ W, Kept w W → TxA W t (txV t (.slice a t.ops.length c))) :
    Calls Try.prog 11 #[.int .i64 i, txV t (.slice a t.ops.length c), .int .i64 eps] w fun e w' => ∃ v, e = .returned (.tuple #[v, .int .i64 (codS i t eps)]) ∧ OwnL w.heap.size w' v (lisS i t eps) ∧ Kept w w' := by
  have HV : Hid (∀ W, Kept w W → _) := fun W k => validR_any W t _ (ht W k)
  have HS : Hid (rightF t → (0 ≤ eps ∧ eps ≤ 1099511627776) → ∀ W, _) := fun h1 h2 W => rShapes17 i t eps a t.ops.length c W h1 h2
  have EZ : Hid (∀ z : Int, z ≠ 0 → codS i t eps = z → lisS i t eps = []) := fun z hz h => by unfold lisS; rw [if_neg (by omega)]
  have EO : Hid (codS i t eps = 0 → lisS i t eps = shp i t eps) := fun h => by unfold lisS; rw [if_pos h]
  generalize hn : t.ops.length = n at *
  by_cases hi1 : i < 0
  · have ec : codS i t eps = 170 := by unfold codS; rw [if_pos (by omega)]
    rw [EZ.out 170 (by decide) ec, ec]
    have d1 : decide (i < 0) = true := decide_eq_true hi1
    clear HV HS EZ EO ec hn
    unfold txV
    go_enter Try.func11, Try.ntmps11
    go_wp2_with fail
    go_ret2
    exact ⟨_, rfl, OwnL.nil _ _, (Same.refl _ w).alloc _⟩
  have di1 : decide (i < 0) = false := decide_eq_false hi1
  by_cases hi2 : 4095 < i
  · have ec : codS i t eps = 170 := by unfold codS; rw [if_pos (by omega)]
    rw [EZ.out 170 (by decide) ec, ec]
    have d2 : decide (4095 < i) = true := decide_eq_true hi2
    clear HV HS EZ EO ec hn
    unfold txV
    go_enter Try.func11, Try.ntmps11
    go_wp2_with fail
    go_ret2
    exact ⟨_, rfl, OwnL.nil _ _, (Same.refl _ w).alloc _⟩
  have di2 : decide (4095 < i) = false := decide_eq_false hi2
  by_cases he1 : eps < 0
  · have ec : codS i t eps = 171 := by unfold codS; rw [if_neg (by omega), if_pos (by omega)]
    rw [EZ.out 171 (by decide) ec, ec]
    have d1 : decide (eps < 0) = true := decide_eq_true he1
    clear HV HS EZ EO ec hn
    unfold txV
    go_enter Try.func11, Try.ntmps11
    go_wp2_with fail
    go_ret2
    exact ⟨_, rfl, OwnL.nil _ _, (Same.refl _ w).alloc _⟩
  have d1 : decide (eps < 0) = false := decide_eq_false he1
  by_cases he2 : 1099511627776 < eps
  · have ec : codS i t eps = 171 := by unfold codS; rw [if_neg (by omega), if_pos (by omega)]
    rw [EZ.out 171 (by decide) ec, ec]
    have d2 : decide (1099511627776 < eps) = true := decide_eq_true he2
    clear HV HS EZ EO ec hn
    unfold txV
    go_enter Try.func11, Try.ntmps11
    go_wp2_with fail
    go_ret2
    exact ⟨_, rfl, OwnL.nil _ _, (Same.refl _ w).alloc _⟩
  have d2 : decide (1099511627776 < eps) = false := decide_eq_false he2
  have ec : codS i t eps = valid t := by unfold codS; rw [if_neg (by omega), if_neg (by omega)]
  by_cases hv : valid t = 0
  · have dv : (valid t != 0) = false := by simp [hv]
    rw [EO.out (ec.trans hv), ec, hv]
    rw [hv] at HV
    have HS' : Hid (∀ W, _) := HS.out (valid_zero.1 hv).1 ⟨by omega, by omega⟩
    clear HS EZ EO ec hn hv dv
    unfold txV at HV HS' ⊢
    go_enter Try.func11, Try.ntmps11
    go_wp2_with fail
    refine Calls.mono (HV.out _ ((Same.refl _ w).alloc _)) ?_
    rintro e W1 ⟨rfl, k1⟩
    have hb : W1.heap[w.heap.size]? = some (txO t a n c) := (k1.block _ (by simp [World.size_alloc]) (fun e => e)).trans (heap_new _ _)
    have K1 : Hid (Kept w W1) := ((Same.refl _ w).alloc _).trans' k1
    obtain ⟨⟨p0, p1, p2, p3, p4, p5, p6, p7⟩, -⟩ := tx_obj hb
    have hl := lt_of_heap hb
    clear hb k1
    go_wp2_with fail
    refine Calls.mono (HS'.out _) ?_
    rintro e W2 ⟨v, rfl, o2, k2⟩
    have O2 : Hid (OwnL w.heap.size W2 v (shp i t eps)) := row_base o2 K1.out.size
    have K2 : Hid (Kept w W2) := K1.out.trans' k2
    obtain ⟨av, m, cv, ev⟩ : ∃ av m cv, v = .slice av m cv := by
      obtain ⟨av, cv, ev, -⟩ := row_shape o2
      exact ⟨_, _, _, ev⟩
    subst ev
    clear o2 k2
    go_wp2_with fail
    go_ret2
    exact ⟨_, rfl, O2.out, K2.out⟩
  · have dv : (valid t != 0) = true := by simpa using hv
    rw [EZ.out _ hv ec, ec]
    clear HS EZ EO ec hn
    generalize valid t = cv at *
    unfold txV at HV ⊢
    go_enter Try.func11, Try.ntmps11
    go_wp2_with fail
    refine Calls.mono (HV.out _ ((Same.refl _ w).alloc _)) ?_
    rintro e W1 ⟨rfl, k1⟩
    have K1 : Hid (Kept w W1) := ((Same.refl _ w).alloc _).trans' k1
    clear k1
    go_wp2_with fail
    go_ret2
    exact ⟨_, rfl, OwnL.nil _ _, K1.out⟩
end Go.Proofs.Ytbjmdpfoeeadeab.Sw
