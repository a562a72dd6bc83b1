/- What is proved: HaltBelow returns true whatever its arguments, and leaves all that was there as it was; no condition. -/
import Derived.Test.YtkkkndbfokjikaaListT
namespace Go.Proofs.Ytkkkndbfokjikaa.haltBelow
open Go.RowKit Go.Conc

/-- A chain of stops and the list of them. -/
structure BI (lo : Nat) (w : World) (T : Tr) (g cap : Nat) : Prop where
  y : Sy lo w T
  l : Ls lo w T (.slice (some ⟨g, 0, none⟩) T.n cap) T.n (ptrs T.blk T.n)
  n1 : 1 ≤ T.n
  n2 : T.n ≤ 200
  p0 : T.par 0 = none
  ps : ∀ k, 0 < k → k < T.n → T.par k = some (k - 1)
/-- The causes behind a cancel of stop a. -/
def want (a k : Nat) : Int := if k < a then 0 else if k = a then 1 else 3

theorem sw_chain (par : Nat → Option Nat) (c : Nat → Int) (n a : Nat) (ha : a < n) (p0 : par 0 = none) (ps : ∀ k, 0 < k → k < n → par k = some (k - 1)) (hc : ∀ k, k < n → c k = 0) :
    ∀ k, k < n → sw par (upd c a 1) n k = want a k := by
  intro k
  induction k with
  | zero =>
    intro hk
    rw [sw_char _ _ _ _ hk (fun p hp => by rw [p0] at hp; cases hp)]
    by_cases e : 0 = a
    · subst e; rw [upd_same]; rfl
    · rw [upd_other _ _ e, hc 0 hk, p0]
      simp [want]; omega
  | succ k ih =>
    intro hk
    have hp := ps (k + 1) (by omega) hk
    rw [sw_char _ _ _ _ hk (fun p hp' => by rw [hp] at hp'; cases hp'; omega)]
    by_cases e : k + 1 = a
    · subst e; rw [upd_same]; simp [want]
    · rw [upd_other _ _ e, hc _ hk, hp]
      show (if (0 : Int) = 0 then if sw par (upd c a 1) n k = 0 then (0 : Int) else 3 else 0) = _
      rw [if_pos rfl, ih (by omega)]
      unfold want
      by_cases h1 : k < a
      · rw [if_pos h1, if_pos rfl, if_pos (by omega)]
      · rw [if_neg h1, if_neg (by split <;> decide), if_neg (by omega), if_neg e]

theorem bi_kid {lo : Nat} {w w1 w2 : World} {T : Tr} {g cap g' cap' : Nat} {sv : Value} (q : BI lo w T g cap) (hn : T.n < 200) (hc : T.cause (T.n - 1) = 0)
    (y1 : Sy lo w1 (kidTr T (T.n - 1) 1000 (born (T.cause (T.n - 1))) sv (w.heap.size + 1) w.heap.size)) (l1 : Ls lo w1 (kidTr T (T.n - 1) 1000 (born (T.cause (T.n - 1))) sv (w.heap.size + 1) w.heap.size) (.slice (some ⟨g, 0, none⟩) T.n cap) T.n (ptrs T.blk T.n))
    (hg : (w1.alloc (.cells #[.pointer (some ⟨w.heap.size + 1, 0, none⟩)] 25)).grownBy w2 (Value.slice (some ⟨g, 0, none⟩) T.n cap).ownBlock)
    (hown : w2.ownsRow 0 25 1 (.slice (some ⟨g', 0, none⟩) (T.n + 1) cap') (T.n + 1) (ptrs T.blk T.n ++ [.pointer (some ⟨w.heap.size + 1, 0, none⟩)]))
    (hat : (Value.slice (some ⟨g', 0, none⟩) (T.n + 1) cap').ownBlock = (Value.slice (some ⟨g, 0, none⟩) T.n cap).ownBlock ∨ (Value.slice (some ⟨g', 0, none⟩) (T.n + 1) cap').ownBlock = some (w1.alloc (.cells #[.pointer (some ⟨w.heap.size + 1, 0, none⟩)] 25)).heap.size)
    (lc : ∀ k, k < T.n → T.left k = 1000 ∧ T.cause k = 0) :
    BI lo w2 (kidTr T (T.n - 1) 1000 (born (T.cause (T.n - 1))) sv (w.heap.size + 1) w.heap.size) g' cap' ∧ (∀ k, k < T.n + 1 → upd T.left T.n 1000 k = 1000 ∧ upd T.cause T.n (born (T.cause (T.n - 1))) k = 0) ∧ Below lo w1 w2 := by
  obtain ⟨y2, l2, b2⟩ := sl_append y1 l1 hg hown hat
  have hp : ptrs T.blk T.n ++ [.pointer (some ⟨w.heap.size + 1, 0, none⟩)] = ptrs (upd T.blk T.n (w.heap.size + 1)) (T.n + 1) := by
    rw [ptrs_succ, upd_same, ptrs_congr (blk := upd T.blk T.n (w.heap.size + 1)) (blk' := T.blk) (fun j hj => upd_other _ _ (by omega))]
  rw [hp] at l2
  have hb : born (T.cause (T.n - 1)) = 0 := by rw [hc]; rfl
  have n1 := q.n1
  refine ⟨⟨y2, l2, Nat.le_succ_of_le q.n1, hn, ?_, fun k h0 hk => ?_⟩, fun k hk => ?_, b2⟩
  · show upd T.par T.n _ 0 = none
    rw [upd_other _ _ (by omega)]; exact q.p0
  · have hk : k < T.n + 1 := hk
    show upd T.par T.n (some (T.n - 1)) k = some (k - 1)
    by_cases e : k = T.n
    · subst e; rw [upd_same]
    · rw [upd_other _ _ e]; exact q.ps k h0 (by omega)
  · by_cases e : k = T.n
    · subst e; rw [upd_same, upd_same]; exact ⟨rfl, hb⟩
    · rw [upd_other _ _ e, upd_other _ _ e]; exact lc k (by omega)

/-- One beat on the way up: each stop loses one at most. -/
theorem dec_bd (par : Nat → Option Nat) (left : Nat → Int) (n i k : Nat) (hp : ∀ k p, k < n → par k = some p → p < k) (hi : i < n) : left k - 1 ≤ dec par left i k ∧ dec par left i k ≤ left k := by
  unfold dec
  rw [dec_char par n hp (i + 1) i hi left k]
  split <;> omega

set_option maxRecDepth 100000 in
set_option maxHeartbeats 800000 in
theorem walk_out (d a : Int) (w : World) (h : d < 1 ∨ 200 < d ∨ a < 0 ∨ d ≤ a) :
    Calls Try.prog 5 #[.int .i64 d, .int .i64 a] w fun e w' => e = .returned (.bool true) ∧ Below w.heap.size w w' := by
  have hnot : ∀ (x : Bool) (w : World), (Op.unary .not (.bool x)).run Try.prog w = .ok (.bool (!x)) w := fun _ _ => rfl
  have tests : (decide (d < 1) = true) ∨ (decide (d < 1) = false ∧ decide (200 < d) = true) ∨ (decide (d < 1) = false ∧ decide (200 < d) = false ∧ decide (a < 0) = true) ∨ (decide (d < 1) = false ∧ decide (200 < d) = false ∧ decide (a < 0) = false ∧ decide (d ≤ a) = true) := by
    simp only [decide_eq_false_iff_not, decide_eq_true_eq]; omega
  clear h
  rcases tests with t1 | ⟨t1, t2⟩ | ⟨t1, t2, t3⟩ | ⟨t1, t2, t3, t4⟩
  all_goals
    go_enter Try.func5, Try.ntmps5
    go_wp2_with fail
    refine (anchor_true w).mono ?_
    rintro e w1 ⟨rfl, s1⟩
    go_wp2_with fail
    go_ret
    exact ⟨rfl, s1.below (Nat.le_refl _) fun _ h => h.elim⟩

set_option maxRecDepth 100000 in
set_option maxHeartbeats 3200000 in
theorem walk_in (d a : Nat) (w : World) (hd1 : 1 ≤ d) (hd2 : d ≤ 200) (had : a < d) :
    Calls Try.prog 5 #[.int .i64 d, .int .i64 a] w fun e w' => e = .returned (.bool true) ∧ Below w.heap.size w w' := by
  have hnot : ∀ (x : Bool) (w : World), (Op.unary .not (.bool x)).run Try.prog w = .ok (.bool (!x)) w := fun _ _ => rfl
  obtain ⟨i0, hi0, hz0, hz1, hz2⟩ := info_parts Try.infoP
  have t1 : decide ((d : Int) < 1) = false := by simp only [decide_eq_false_iff_not]; omega
  have t2 : decide (200 < (d : Int)) = false := by simp only [decide_eq_false_iff_not]; omega
  have t3 : decide ((a : Int) < 0) = false := by simp only [decide_eq_false_iff_not]; omega
  have t4 : decide ((d : Int) ≤ (a : Int)) = false := by simp only [decide_eq_false_iff_not]; omega
  go_enter Try.func5, Try.ntmps5
  go_wp2_with fail
  refine (anchor_true w).mono ?_
  rintro e w1 ⟨rfl, s1⟩
  go_wp2_with fail
  refine (new_yes 1000 w1 (by omega) (by omega)).mono ?_
  rintro e w2 ⟨rfl, sv2, h2, f2, s2⟩
  have D : Hid (w.heap.size ≤ w1.heap.size) := s1.size
  have HM : Hid (BI w1.heap.size (w2.alloc (.cells #[.pointer (some ⟨w1.heap.size + 2, 0, none⟩)] 25)) (seedTr w1.heap.size sv2 1000) w2.heap.size 1) := by
    have s3 : Same (fun _ => False) w2 (w2.alloc (.cells #[.pointer (some ⟨w1.heap.size + 2, 0, none⟩)] 25)) := (Same.refl _ w2).alloc _
    refine ⟨⟨h2.kept s3 fun _ _ h => h, fun k _ => ⟨by simp [seedTr], by simp [seedTr]⟩, fun k p _ hp => by simp [seedTr] at hp, f2⟩, ⟨row_one w2 _ _, fun k hk => ?_⟩, Nat.le_refl _, by show 1 ≤ 200; omega, rfl, fun k h0 hk => by have hk : k < 1 := hk; omega⟩
    simp only [Value.ownBlock, Option.some.injEq] at hk
    subst hk
    exact ⟨s2.size, fun hf => by have := h2.lt hf; omega⟩
  have B3 : Hid (Below w.heap.size w (w2.alloc (.cells #[.pointer (some ⟨w1.heap.size + 2, 0, none⟩)] 25))) := by
    have z1 := s1.below (B := w.heap.size) (Nat.le_refl _) (fun _ h => h.elim)
    have z2 := s2.below (B := w.heap.size) s1.size (fun _ h => h.elim)
    exact (z1.trans z2).alloc (Nat.le_trans s1.size s2.size) _
  clear h2 f2 s2 s1
  go_wp2_with fail
  go_loopw [7] (fun q wx => ∃ (T : Tr) (g c : Nat), q = .slice (some ⟨g, 0, none⟩) T.n c ∧ BI w1.heap.size wx T g c ∧ (∀ k, k < T.n → T.left k = 1000 ∧ T.cause k = 0) ∧ T.n ≤ d ∧ Below w.heap.size w wx) (fun q _ => d - slen q)
  case atStart => exact ⟨_, _, _, rfl, HM.out, fun _ _ => ⟨rfl, rfl⟩, hd1, B3.out⟩
  case round =>
    obtain ⟨T, g, c, rfl, q, lc, hnd, bb⟩ := hrel
    clear HM B3
    have n1 := q.n1
    have Q : Hid _ := q
    have LC : Hid _ := lc
    clear q lc
    by_cases hlt : T.n < d
    · have hlt' : decide ((T.n : Int) < (d : Int)) = true := by simp only [decide_eq_true_eq]; omega
      have b1 : (1 : Int) ≤ (T.n : Int) := by omega
      have b2 : (T.n : Int) ≤ 200 := by omega
      have hsub : ((T.n : Int) - 1).toNat = T.n - 1 := by omega
      have hcell : wr.cell? ⟨g, T.n - 1, none⟩ = some (.pointer (some ⟨T.blk (T.n - 1), 0, none⟩)) := row_at Q.out.l.row (ptrs_get _ _ (T.n - 1) (by omega))
      go_wp2_with fail
      refine (sy_child wr Q.out.y (T.n - 1) (by omega) 1000 (by omega) (by omega) (by omega)).mono ?_
      rintro e w3 ⟨rfl, sv3, y3, f3, s3⟩
      have l3 : Ls w1.heap.size w3 (kidTr T (T.n - 1) 1000 (born (T.cause (T.n - 1))) sv3 (wr.heap.size + 1) wr.heap.size) (.slice (some ⟨g, 0, none⟩) T.n c) T.n (ptrs T.blk T.n) := Q.out.l.kept s3 f3
      have Y3 : Hid _ := y3
      have L3 : Hid _ := l3
      have BB : Hid (Below w.heap.size w w3) := bb.trans ((Q.out.y.below s3).mono D.out)
      clear y3 l3 f3 s3
      go_wp2_with (at_builtin; go_loud (refine wpList_append_own_at _ rfl (.tmp 63) (.tmp 65) 31 rfl 0 25 i0 (.pointer none) 1 8 Try.underlying31 hi0 hz0 hz1 hz2 rfl (by decide) _ T.n (ptrs T.blk T.n) rfl (L3.out.row.alloc _) ⟨w3.heap.size, 0, none⟩ 1 1 [.pointer (some ⟨wr.heap.size + 1, 0, none⟩)] rfl rfl (cell_one_new _ _ _) (by simp [Value.oneCell']) (by unfold maxLen; omega) (by omega) (Nat.zero_le _) ?_); intro v' w4 hown' hgrow hnil hat; obtain ⟨g', c', rfl⟩ := row_slice hown')
      obtain ⟨q4, lc4, b4⟩ := bi_kid Q.out (by omega) (LC.out _ (by omega)).2 Y3.out L3.out hgrow hown' hat LC.out
      go_roundw
      case rel => exact ⟨kidTr T (T.n - 1) 1000 (born (T.cause (T.n - 1))) sv3 (wr.heap.size + 1) wr.heap.size, g', c', rfl, q4, lc4, hlt, BB.out.trans (b4.mono D.out)⟩
      case measure => simp only [slen]; omega
    · have hnd' : T.n = d := by omega
      subst hnd'
      have hlt' : decide ((T.n : Int) < (T.n : Int)) = false := by simp
      have ha' : (a : Int) < (T.n : Int) := by omega
      have hcell : wr.cell? ⟨g, a, none⟩ = some (.pointer (some ⟨T.blk a, 0, none⟩)) := row_at Q.out.l.row (ptrs_get _ _ a had)
      go_wp2_with fail
      refine (cancel_live wr Q.out.y.h a had (LC.out a had).2).mono ?_
      rintro e w3 ⟨rfl, h3, s3⟩
      have Y3 : Hid (BI w1.heap.size w3 (mCancel T a) g c) := ⟨⟨h3, Q.out.y.rng, closed_sw _ _ _ h3.par, Q.out.y.lo⟩, Q.out.l.kept s3 fun _ h => .inl h, Q.out.n1, Q.out.n2, Q.out.p0, Q.out.ps⟩
      have W3 : Hid (∀ k, k < T.n → (mCancel T a).cause k = want a k) := sw_chain T.par T.cause T.n a had Q.out.p0 Q.out.ps fun k hk => (LC.out k hk).2
      have L3 : Hid (∀ k, k < T.n → (mCancel T a).left k = 1000) := fun k hk => (LC.out k hk).1
      have BB : Hid (Below w.heap.size w w3) := bb.trans ((Q.out.y.below s3).mono D.out)
      clear h3 s3 hcell LC bb
      clear Q
      go_wp2_with fail
      go_loopw [10] (fun q wx => ∃ (k : Nat) (S : Tr), k ≤ T.n ∧ q = .int .i64 k ∧ BI w1.heap.size wx S g c ∧ S.n = T.n ∧ (∀ j, j < T.n → S.cause j = want a j) ∧ (∀ j, j < T.n → 1000 - (k : Int) ≤ S.left j ∧ S.left j ≤ 1000) ∧ Below w.heap.size w wx) (fun q _ => T.n - (intOf q).toNat)
      case atStart => exact ⟨0, mCancel T a, Nat.zero_le _, rfl, Y3.out, rfl, W3.out, fun j hj => by rw [L3.out j hj]; omega, BB.out⟩
      case round =>
        obtain ⟨k, S, hk, rfl, q, hSn, hw, hf, bb⟩ := hrel
        have Q : Hid _ := q
        have HW : Hid _ := hw
        have HF : Hid _ := hf
        have HN : Hid _ := hSn
        clear q hw hf Y3 W3 L3 BB
        by_cases hk' : k < T.n
        · have hkS : k < S.n := by omega
          have hkl : decide ((k : Int) < (T.n : Int)) = true := by simp only [decide_eq_true_eq]; omega
          have hkl2 : (k : Int) < (T.n : Int) := by omega
          have hcell : wr.cell? ⟨g, k, none⟩ = some (.pointer (some ⟨S.blk k, 0, none⟩)) := row_at Q.out.l.row (ptrs_get _ _ k hkS)
          clear hSn
          rcases Nat.lt_trichotomy k a with hka | hka | hka
          · have c1 : ((k : Int) == (a : Int)) = false := by simp; omega
            have c2 : decide ((a : Int) < (k : Int)) = false := by simp only [decide_eq_false_iff_not]; omega
            have c3 : ¬ (a : Int) < (k : Int) := by omega
            have c4 : ¬ a < k := by omega
            have hv : S.cause k = 0 := by rw [HW.out k hk']; unfold want; rw [if_pos hka]
            have HV : Hid _ := hv
            clear hv hka
            go_wp2_with fail
            refine (cause_val wr Q.out.y.h k hkS _ rfl 0 HV.out).mono ?_
            rintro e w4 ⟨rfl, h4, s4⟩
            have l4 := Q.out.l.kept s4 (T' := S) fun _ h => .inl h
            have hcell4 : w4.cell? ⟨g, k, none⟩ = some (.pointer (some ⟨S.blk k, 0, none⟩)) := row_at l4.row (ptrs_get _ _ k hkS)
            have L4 : Hid _ := l4
            clear l4
            go_wp2_with fail
            refine (stopped_val w4 h4 k hkS _ rfl false (by rw [HV.out]; rfl)).mono ?_
            rintro e w5 ⟨rfl, h5, s5⟩
            have l5 := L4.out.kept s5 (T' := S) fun _ h => .inl h
            have hcell5 : w5.cell? ⟨g, k, none⟩ = some (.pointer (some ⟨S.blk k, 0, none⟩)) := row_at l5.row (ptrs_get _ _ k hkS)
            have L5 : Hid _ := l5
            have B5 : Hid (Below w.heap.size w w5) := (bb.trans ((Q.out.y.below s4).mono D.out)).trans ((one_lo h4 Q.out.y.lo s5).mono D.out)
            clear l5 s4 s5
            go_wp2_with fail
            refine (beat_take w5 h5 Q.out.y.rng k hkS HV.out (spent_full S.par S.left S.n k hkS h5.par fun j hj => by have := (HF.out j (by have := HN.out; omega)).1; omega)).mono ?_
            rintro e w6 ⟨rfl, h6, s6⟩
            have Q6 : Hid (BI w1.heap.size w6 (mTake S k) g c) := ⟨⟨h6, rng_dec _ _ _ _ h5.par hkS Q.out.y.rng (spent_full S.par S.left S.n k hkS h5.par fun j hj => by have := (HF.out j (by have := HN.out; omega)).1; omega), Q.out.y.cl, Q.out.y.lo⟩, L5.out.kept s6 fun _ h => .inl h, Q.out.n1, Q.out.n2, Q.out.p0, Q.out.ps⟩
            have F6 : Hid (∀ j, j < T.n → 1000 - ((k + 1 : Nat) : Int) ≤ (mTake S k).left j ∧ (mTake S k).left j ≤ 1000) := fun j hj => by
              have h7 := dec_bd S.par S.left S.n k j h5.par hkS
              have h8 := HF.out j hj
              show 1000 - ((k + 1 : Nat) : Int) ≤ dec S.par S.left k j ∧ dec S.par S.left k j ≤ 1000
              omega
            have B6 : Hid (Below w.heap.size w w6) := B5.out.trans ((one_lo h5 Q.out.y.lo s6).mono D.out)
            clear h4 h5 h6 s6
            go_wp2_with fail
            go_roundw
            case rel => exact ⟨k + 1, mTake S k, by omega, by go_num, Q6.out, HN.out, HW.out, F6.out, B6.out⟩
            case measure => simp [intOf]; omega
          · have c1 : ((k : Int) == (a : Int)) = true := by simp; omega
            have c2 : decide ((a : Int) < (k : Int)) = false := by simp only [decide_eq_false_iff_not]; omega
            have c3 : ¬ (a : Int) < (k : Int) := by omega
            have c4 : ¬ a < k := by omega
            have hv : S.cause k = 1 := by rw [HW.out k hk']; unfold want; rw [if_neg (by omega), if_pos hka]
            have HV : Hid _ := hv
            clear hv hka
            go_wp2_with fail
            refine (cause_val wr Q.out.y.h k hkS _ rfl 1 HV.out).mono ?_
            rintro e w4 ⟨rfl, h4, s4⟩
            have l4 := Q.out.l.kept s4 (T' := S) fun _ h => .inl h
            have hcell4 : w4.cell? ⟨g, k, none⟩ = some (.pointer (some ⟨S.blk k, 0, none⟩)) := row_at l4.row (ptrs_get _ _ k hkS)
            have L4 : Hid _ := l4
            clear l4
            go_wp2_with fail
            refine (stopped_val w4 h4 k hkS _ rfl true (by rw [HV.out]; rfl)).mono ?_
            rintro e w5 ⟨rfl, h5, s5⟩
            have l5 := L4.out.kept s5 (T' := S) fun _ h => .inl h
            have hcell5 : w5.cell? ⟨g, k, none⟩ = some (.pointer (some ⟨S.blk k, 0, none⟩)) := row_at l5.row (ptrs_get _ _ k hkS)
            have L5 : Hid _ := l5
            have B5 : Hid (Below w.heap.size w w5) := (bb.trans ((Q.out.y.below s4).mono D.out)).trans ((one_lo h4 Q.out.y.lo s5).mono D.out)
            clear l5 s4 s5
            go_wp2_with fail
            refine (beat_dead w5 h5 k hkS (by rw [HV.out]; decide)).mono ?_
            rintro e w6 ⟨rfl, h6, s6⟩
            have Q6 : Hid (BI w1.heap.size w6 S g c) := ⟨⟨h6, Q.out.y.rng, Q.out.y.cl, Q.out.y.lo⟩, L5.out.kept s6 fun _ h => .inl h, Q.out.n1, Q.out.n2, Q.out.p0, Q.out.ps⟩
            have F6 : Hid (∀ j, j < T.n → 1000 - ((k + 1 : Nat) : Int) ≤ S.left j ∧ S.left j ≤ 1000) := fun j hj => by
              have h8 := HF.out j hj
              omega
            have B6 : Hid (Below w.heap.size w w6) := B5.out.trans ((one_lo h5 Q.out.y.lo s6).mono D.out)
            clear h4 h5 h6 s6
            go_wp2_with fail
            go_roundw
            case rel => exact ⟨k + 1, S, by omega, by go_num, Q6.out, HN.out, HW.out, F6.out, B6.out⟩
            case measure => simp [intOf]; omega
          · have c1 : ((k : Int) == (a : Int)) = false := by simp; omega
            have c2 : decide ((a : Int) < (k : Int)) = true := by simp only [decide_eq_true_eq]; omega
            have c3 : (a : Int) < (k : Int) := by omega
            have c4 : a < k := by omega
            have hv : S.cause k = 3 := by rw [HW.out k hk']; unfold want; rw [if_neg (by omega), if_neg (by omega)]
            have HV : Hid _ := hv
            clear hv hka
            go_wp2_with fail
            refine (cause_val wr Q.out.y.h k hkS _ rfl 3 HV.out).mono ?_
            rintro e w4 ⟨rfl, h4, s4⟩
            have l4 := Q.out.l.kept s4 (T' := S) fun _ h => .inl h
            have hcell4 : w4.cell? ⟨g, k, none⟩ = some (.pointer (some ⟨S.blk k, 0, none⟩)) := row_at l4.row (ptrs_get _ _ k hkS)
            have L4 : Hid _ := l4
            clear l4
            go_wp2_with fail
            refine (stopped_val w4 h4 k hkS _ rfl true (by rw [HV.out]; rfl)).mono ?_
            rintro e w5 ⟨rfl, h5, s5⟩
            have l5 := L4.out.kept s5 (T' := S) fun _ h => .inl h
            have hcell5 : w5.cell? ⟨g, k, none⟩ = some (.pointer (some ⟨S.blk k, 0, none⟩)) := row_at l5.row (ptrs_get _ _ k hkS)
            have L5 : Hid _ := l5
            have B5 : Hid (Below w.heap.size w w5) := (bb.trans ((Q.out.y.below s4).mono D.out)).trans ((one_lo h4 Q.out.y.lo s5).mono D.out)
            clear l5 s4 s5
            go_wp2_with fail
            refine (beat_dead w5 h5 k hkS (by rw [HV.out]; decide)).mono ?_
            rintro e w6 ⟨rfl, h6, s6⟩
            have Q6 : Hid (BI w1.heap.size w6 S g c) := ⟨⟨h6, Q.out.y.rng, Q.out.y.cl, Q.out.y.lo⟩, L5.out.kept s6 fun _ h => .inl h, Q.out.n1, Q.out.n2, Q.out.p0, Q.out.ps⟩
            have F6 : Hid (∀ j, j < T.n → 1000 - ((k + 1 : Nat) : Int) ≤ S.left j ∧ S.left j ≤ 1000) := fun j hj => by
              have h8 := HF.out j hj
              omega
            have B6 : Hid (Below w.heap.size w w6) := B5.out.trans ((one_lo h5 Q.out.y.lo s6).mono D.out)
            clear h4 h5 h6 s6
            go_wp2_with fail
            go_roundw
            case rel => exact ⟨k + 1, S, by omega, by go_num, Q6.out, HN.out, HW.out, F6.out, B6.out⟩
            case measure => simp [intOf]; omega
        · have hkn : k = T.n := by omega
          have haS : a < S.n := by omega
          have hkl : decide ((k : Int) < (T.n : Int)) = false := by simp only [decide_eq_false_iff_not]; omega
          have hcell : wr.cell? ⟨g, a, none⟩ = some (.pointer (some ⟨S.blk a, 0, none⟩)) := row_at Q.out.l.row (ptrs_get _ _ a haS)
          have hca : S.cause a = 1 := by rw [HW.out a had]; simp [want]
          have HA : Hid _ := hca
          have hS2 : S.n < 256 := by omega
          clear hca hSn
          go_wp2_with fail
          refine (sy_child wr Q.out.y a haS 4 (by omega) (by omega) hS2).mono ?_
          rintro e w4 ⟨rfl, sv4, y4, f4, s4⟩
          have hc4 : (kidTr S a 4 (born (S.cause a)) sv4 (wr.heap.size + 1) wr.heap.size).cause S.n = 3 := by
            show upd S.cause S.n (born (S.cause a)) S.n = 3
            rw [upd_same, HA.out]; rfl
          have hl4 : (kidTr S a 4 (born (S.cause a)) sv4 (wr.heap.size + 1) wr.heap.size).left S.n = 4 := upd_same ..
          have hp4 : (⟨(kidTr S a 4 (born (S.cause a)) sv4 (wr.heap.size + 1) wr.heap.size).blk S.n, 0, none⟩ : Addr) = ⟨wr.heap.size + 1, 0, none⟩ := by
            show (⟨upd S.blk S.n (wr.heap.size + 1) S.n, 0, none⟩ : Addr) = _
            rw [upd_same]
          have hn4 : S.n < (kidTr S a 4 (born (S.cause a)) sv4 (wr.heap.size + 1) wr.heap.size).n := Nat.lt_succ_self _
          have b4 := bb.trans ((Q.out.y.below s4).mono D.out)
          generalize kidTr S a 4 (born (S.cause a)) sv4 (wr.heap.size + 1) wr.heap.size = U at y4 f4 hc4 hl4 hp4 hn4
          have HC4 : Hid _ := hc4
          have HL4 : Hid _ := hl4
          have HP4 : Hid _ := hp4
          clear hc4 hl4 hp4 s4 f4
          go_wp2_with fail
          refine (stopped_val w4 y4.h S.n hn4 _ HP4.out true (by rw [HC4.out]; rfl)).mono ?_
          rintro e w5 ⟨rfl, h5, s5⟩
          go_wp2_with fail
          refine (cause_val w5 h5 S.n hn4 _ HP4.out 3 HC4.out).mono ?_
          rintro e w6 ⟨rfl, h6, s6⟩
          go_wp2_with fail
          refine (left_val w6 h6 S.n hn4 _ HP4.out 4 HL4.out).mono ?_
          rintro e w7 ⟨rfl, h7, s7⟩
          go_wp2_with fail
          have hbd := beat_dead w7 h7 S.n hn4 (by rw [HC4.out]; decide)
          rw [HP4.out] at hbd
          refine hbd.mono ?_
          rintro e w8 ⟨rfl, h8, s8⟩
          go_wp2_with fail
          go_ret
          exact ⟨rfl, (((b4.trans ((one_lo y4.h y4.lo s5).mono D.out)).trans ((one_lo h5 y4.lo s6).mono D.out)).trans ((one_lo h6 y4.lo s7).mono D.out)).trans ((one_lo h7 y4.lo s8).mono D.out)⟩

theorem walk (d a : Int) (w : World) :
    Calls Try.prog 5 #[.int .i64 d, .int .i64 a] w fun e w' => e = .returned (.bool true) ∧ Below w.heap.size w w' := by
  by_cases h : 1 ≤ d ∧ d ≤ 200 ∧ 0 ≤ a ∧ a < d
  · obtain ⟨d, rfl⟩ := Int.eq_ofNat_of_zero_le (show 0 ≤ d by omega)
    obtain ⟨a, rfl⟩ := Int.eq_ofNat_of_zero_le h.2.2.1
    exact walk_in d a w (by omega) (by omega) (by omega)
  · exact walk_out d a w (by omega)
end Go.Proofs.Ytkkkndbfokjikaa.haltBelow
