/- What is proved: HaltMany returns true whatever its argument, and leaves all that was there as it was; the cells of the slice of places lie in memory. -/
import Derived.Test.YtkkkndbfokjikaaListT
namespace Go.Proofs.Ytkkkndbfokjikaa.haltMany
open Go.RowKit Go.Conc

/-- The tree and the list while they grow. -/
structure MI (r lo : Nat) (w : World) (T : Tr) (g cap : Nat) : Prop where
  y : Sy lo w T
  l : Ls lo w T (.slice (some ⟨g, 0, none⟩) T.n cap) T.n (ptrs T.blk T.n)
  n1 : 1 ≤ T.n
  n2 : T.n ≤ 256
  r0 : T.blk 0 = r
  lc : ∀ k, k < T.n → T.left k = 3 ∧ T.cause k = 0
  ps : ∀ k, 0 < k → k < T.n → ∃ p, T.par k = some p

theorem mi_kid {r lo : Nat} {w w1 w2 : World} {T : Tr} {g cap g' cap' i : Nat} {sv : Value} (q : MI r lo w T g cap) (hi : i < T.n) (hn : T.n < 256)
    (y1 : Sy lo w1 (kidTr T i 3 (born (T.cause i)) sv (w.heap.size + 1) w.heap.size)) (l1 : Ls lo w1 (kidTr T i 3 (born (T.cause i)) sv (w.heap.size + 1) w.heap.size) (.slice (some ⟨g, 0, none⟩) T.n cap) T.n (ptrs T.blk T.n))
    (hg : (w1.alloc (.cells #[.pointer (some ⟨w.heap.size + 1, 0, none⟩)] 25)).grownBy w2 (Value.slice (some ⟨g, 0, none⟩) T.n cap).ownBlock)
    (hown : w2.ownsRow 0 25 1 (.slice (some ⟨g', 0, none⟩) (T.n + 1) cap') (T.n + 1) (ptrs T.blk T.n ++ [.pointer (some ⟨w.heap.size + 1, 0, none⟩)]))
    (hat : (Value.slice (some ⟨g', 0, none⟩) (T.n + 1) cap').ownBlock = (Value.slice (some ⟨g, 0, none⟩) T.n cap).ownBlock ∨ (Value.slice (some ⟨g', 0, none⟩) (T.n + 1) cap').ownBlock = some (w1.alloc (.cells #[.pointer (some ⟨w.heap.size + 1, 0, none⟩)] 25)).heap.size) :
    MI r lo w2 (kidTr T i 3 (born (T.cause i)) sv (w.heap.size + 1) w.heap.size) g' cap' ∧ Below lo w1 w2 := by
  obtain ⟨y2, l2, b2⟩ := sl_append y1 l1 hg hown hat
  have hp : ptrs T.blk T.n ++ [.pointer (some ⟨w.heap.size + 1, 0, none⟩)] = ptrs (upd T.blk T.n (w.heap.size + 1)) (T.n + 1) := by
    rw [ptrs_succ, upd_same, ptrs_congr (blk := upd T.blk T.n (w.heap.size + 1)) (blk' := T.blk) (fun j hj => upd_other _ _ (by omega))]
  rw [hp] at l2
  have hc : born (T.cause i) = 0 := by rw [(q.lc i hi).2]; rfl
  have n1 := q.n1
  refine ⟨⟨y2, l2, Nat.le_succ_of_le q.n1, hn, ?_, fun k hk => ?_, fun k h0 hk => ?_⟩, b2⟩
  · show upd T.blk T.n _ 0 = r
    rw [upd_other _ _ (by omega)]; exact q.r0
  · have hk : k < T.n + 1 := hk
    show upd T.left T.n 3 k = 3 ∧ upd T.cause T.n _ k = 0
    by_cases e : k = T.n
    · subst e; rw [upd_same, upd_same]; exact ⟨rfl, hc⟩
    · rw [upd_other _ _ e, upd_other _ _ e]; exact q.lc k (by omega)
  · have hk : k < T.n + 1 := hk
    show ∃ p, upd T.par T.n (some i) k = some p
    by_cases e : k = T.n
    · subst e; rw [upd_same]; exact ⟨i, rfl⟩
    · rw [upd_other _ _ e]; exact q.ps k h0 (by omega)

set_option maxRecDepth 100000 in
set_option maxHeartbeats 1600000 in
theorem walk (sa : Option Addr) (len cap : Nat) (Z : Nat → Int) (w : World) (hlen : len ≤ maxLen)
    (hc : ∀ i, i < len → ∃ b off, sa = some ⟨b, off, none⟩ ∧ b < w.heap.size ∧ w.cell? ⟨b, off + i, none⟩ = some (.int .i64 (Z i))) :
    Calls Try.prog 8 #[.slice sa len cap] w fun e w' => e = .returned (.bool true) ∧ Below w.heap.size w w' := by
  have hnot : ∀ (x : Bool) (w : World), (Op.unary .not (.bool x)).run Try.prog w = .ok (.bool (!x)) w := fun _ _ => rfl
  obtain ⟨i0, hi0, hz0, hz1, hz2⟩ := info_parts Try.infoP
  unfold maxLen at hlen
  have hlen' : (len : Int) ≤ 9223372036854775807 := by omega
  have HC : Hid _ := hc
  clear hc
  go_enter Try.func8, Try.ntmps8
  go_wp2_with fail
  refine (anchor_true w).mono ?_
  rintro e w1 ⟨rfl, s1⟩
  go_wp2_with fail
  refine (new_yes 3 w1 (by omega) (by omega)).mono ?_
  rintro e w2 ⟨rfl, sv2, h2, f2, s2⟩
  have D : Hid (w.heap.size ≤ w1.heap.size) := s1.size
  have HM : Hid (MI (w1.heap.size + 2) w1.heap.size (w2.alloc (.cells #[.pointer (some ⟨w1.heap.size + 2, 0, none⟩)] 25)) (seedTr w1.heap.size sv2 3) w2.heap.size 1) := by
    have s3 : Same (fun _ => False) w2 (w2.alloc (.cells #[.pointer (some ⟨w1.heap.size + 2, 0, none⟩)] 25)) := (Same.refl _ w2).alloc _
    refine ⟨⟨h2.kept s3 fun _ _ h => h, fun k _ => ⟨by simp [seedTr], by simp [seedTr]⟩, fun k p _ hp => by simp [seedTr] at hp, f2⟩, ⟨row_one w2 _ _, fun k hk => ?_⟩, Nat.le_refl _, by show 1 ≤ 256; omega, rfl, fun k _ => ⟨rfl, rfl⟩, fun k h0 hk => by have hk : k < 1 := hk; omega⟩
    simp only [Value.ownBlock, Option.some.injEq] at hk
    subst hk
    exact ⟨s2.size, fun hf => by have := h2.lt hf; omega⟩
  have B3 : Hid (Below w.heap.size w (w2.alloc (.cells #[.pointer (some ⟨w1.heap.size + 2, 0, none⟩)] 25))) := by
    have z1 := s1.below (B := w.heap.size) (Nat.le_refl _) (fun _ h => h.elim)
    have z2 := s2.below (B := w.heap.size) s1.size (fun _ h => h.elim)
    exact (z1.trans z2).alloc (Nat.le_trans s1.size s2.size) _
  clear h2 f2 s2 s1
  go_wp2_with fail
  go_loopw [5] (fun q wx => ∃ (T : Tr) (g c : Nat), q = .slice (some ⟨g, 0, none⟩) T.n c ∧ MI (w1.heap.size + 2) w1.heap.size wx T g c ∧ Below w.heap.size w wx) (fun q _ => 256 - slen q)
  case atStart => exact ⟨_, _, _, rfl, HM.out, B3.out⟩
  case round =>
    obtain ⟨T, g, c, rfl, q, bb⟩ := hrel
    clear HM B3
    have n1 := q.n1
    have n2 := q.n2
    have Q : Hid _ := q
    by_cases hlt : T.n < 256
    · have hlt' : decide ((T.n : Int) < 256) = true := by simp only [decide_eq_true_eq]; omega
      have b1 : (1 : Int) ≤ (T.n : Int) := by omega
      have b2 : (T.n : Int) ≤ 256 := by omega
      -- the place, in four ways
      have ways : (decide ((T.n : Int) - 1 < (len : Int)) = false) ∨ (T.n - 1 < len ∧ decide ((T.n : Int) - 1 < (len : Int)) = true) := by
        by_cases h : T.n - 1 < len
        · exact .inr ⟨h, by simp only [decide_eq_true_eq]; omega⟩
        · exact .inl (by simp only [decide_eq_false_iff_not]; omega)
      rcases ways with t1 | ⟨hw, t1⟩
      · have hcell : wr.cell? ⟨g, 0, none⟩ = some (.pointer (some ⟨T.blk 0, 0, none⟩)) := row_at Q.out.l.row (ptrs_get _ _ 0 (by omega))
        have u1 : decide ((T.n : Int) ≤ 0) = false := by simp only [decide_eq_false_iff_not]; omega
        clear q
        go_wp2_with fail
        refine (sy_child wr Q.out.y 0 (by omega) 3 (by omega) (by omega) hlt).mono ?_
        rintro e w3 ⟨rfl, sv3, y3, f3, s3⟩
        have l3 : Ls w1.heap.size w3 (kidTr T 0 3 (born (T.cause 0)) sv3 (wr.heap.size + 1) wr.heap.size) (.slice (some ⟨g, 0, none⟩) T.n c) T.n (ptrs T.blk T.n) := Q.out.l.kept s3 f3
        have Y3 : Hid _ := y3
        have L3 : Hid _ := l3
        have BB : Hid (Below w.heap.size w w3) := bb.trans ((Q.out.y.below s3).mono D.out)
        clear y3 l3 f3 s3
        go_wp2_with (at_builtin; go_loud (refine wpList_append_own_at _ rfl (.tmp 64) (.tmp 66) 31 rfl 0 25 i0 (.pointer none) 1 8 Try.underlying31 hi0 hz0 hz1 hz2 rfl (by decide) _ T.n (ptrs T.blk T.n) rfl (L3.out.row.alloc _) ⟨w3.heap.size, 0, none⟩ 1 1 [.pointer (some ⟨wr.heap.size + 1, 0, none⟩)] rfl rfl (cell_one_new _ _ _) (by simp [Value.oneCell']) (by unfold maxLen; omega) (by omega) (Nat.zero_le _) ?_); intro v' w4 hown' hgrow hnil hat; obtain ⟨g', c', rfl⟩ := row_slice hown')
        obtain ⟨q4, b4⟩ := mi_kid Q.out (by omega) hlt Y3.out L3.out hgrow hown' hat
        go_roundw
        case rel => exact ⟨kidTr T 0 3 (born (T.cause 0)) sv3 (wr.heap.size + 1) wr.heap.size, g', c', rfl, q4, BB.out.trans (b4.mono D.out)⟩
        case measure => simp only [slen]; omega
      · obtain ⟨b, off, rfl, hb, hcl⟩ := HC.out (T.n - 1) hw
        have hcl' : wr.cell? ⟨b, off + (T.n - 1), none⟩ = some (.int .i64 (Z (T.n - 1))) := (bb.cell (p := ⟨b, off + (T.n - 1), none⟩) hb).trans hcl
        have hsub : ((T.n : Int) - 1).toNat = T.n - 1 := by omega
        clear hcl
        generalize Z (T.n - 1) = z at hcl'
        have zz : (decide (z < 0) = true) ∨ (decide (z < 0) = false ∧ decide ((T.n : Int) ≤ z) = true) ∨ ∃ i : Nat, i < T.n ∧ z = (i : Int) := by
          by_cases h0 : z < 0
          · exact .inl (by simpa using h0)
          · by_cases h1 : (T.n : Int) ≤ z
            · exact .inr (.inl ⟨by simpa using h0, by simpa using h1⟩)
            · exact .inr (.inr ⟨z.toNat, by omega, by omega⟩)
        rcases zz with u1 | ⟨u1, u2⟩ | ⟨i, hi, rfl⟩
        · have hcell : wr.cell? ⟨g, 0, none⟩ = some (.pointer (some ⟨T.blk 0, 0, none⟩)) := row_at Q.out.l.row (ptrs_get _ _ 0 (by omega))
          clear q
          go_wp2_with fail
          refine (sy_child wr Q.out.y 0 (by omega) 3 (by omega) (by omega) hlt).mono ?_
          rintro e w3 ⟨rfl, sv3, y3, f3, s3⟩
          have l3 : Ls w1.heap.size w3 (kidTr T 0 3 (born (T.cause 0)) sv3 (wr.heap.size + 1) wr.heap.size) (.slice (some ⟨g, 0, none⟩) T.n c) T.n (ptrs T.blk T.n) := Q.out.l.kept s3 f3
          have Y3 : Hid _ := y3
          have L3 : Hid _ := l3
          have BB : Hid (Below w.heap.size w w3) := bb.trans ((Q.out.y.below s3).mono D.out)
          clear y3 l3 f3 s3
          go_wp2_with (at_builtin; go_loud (refine wpList_append_own_at _ rfl (.tmp 64) (.tmp 66) 31 rfl 0 25 i0 (.pointer none) 1 8 Try.underlying31 hi0 hz0 hz1 hz2 rfl (by decide) _ T.n (ptrs T.blk T.n) rfl (L3.out.row.alloc _) ⟨w3.heap.size, 0, none⟩ 1 1 [.pointer (some ⟨wr.heap.size + 1, 0, none⟩)] rfl rfl (cell_one_new _ _ _) (by simp [Value.oneCell']) (by unfold maxLen; omega) (by omega) (Nat.zero_le _) ?_); intro v' w4 hown' hgrow hnil hat; obtain ⟨g', c', rfl⟩ := row_slice hown')
          obtain ⟨q4, b4⟩ := mi_kid Q.out (by omega) hlt Y3.out L3.out hgrow hown' hat
          go_roundw
          case rel => exact ⟨kidTr T 0 3 (born (T.cause 0)) sv3 (wr.heap.size + 1) wr.heap.size, g', c', rfl, q4, BB.out.trans (b4.mono D.out)⟩
          case measure => simp only [slen]; omega
        · have hcell : wr.cell? ⟨g, 0, none⟩ = some (.pointer (some ⟨T.blk 0, 0, none⟩)) := row_at Q.out.l.row (ptrs_get _ _ 0 (by omega))
          clear q
          go_wp2_with fail
          refine (sy_child wr Q.out.y 0 (by omega) 3 (by omega) (by omega) hlt).mono ?_
          rintro e w3 ⟨rfl, sv3, y3, f3, s3⟩
          have l3 : Ls w1.heap.size w3 (kidTr T 0 3 (born (T.cause 0)) sv3 (wr.heap.size + 1) wr.heap.size) (.slice (some ⟨g, 0, none⟩) T.n c) T.n (ptrs T.blk T.n) := Q.out.l.kept s3 f3
          have Y3 : Hid _ := y3
          have L3 : Hid _ := l3
          have BB : Hid (Below w.heap.size w w3) := bb.trans ((Q.out.y.below s3).mono D.out)
          clear y3 l3 f3 s3
          go_wp2_with (at_builtin; go_loud (refine wpList_append_own_at _ rfl (.tmp 64) (.tmp 66) 31 rfl 0 25 i0 (.pointer none) 1 8 Try.underlying31 hi0 hz0 hz1 hz2 rfl (by decide) _ T.n (ptrs T.blk T.n) rfl (L3.out.row.alloc _) ⟨w3.heap.size, 0, none⟩ 1 1 [.pointer (some ⟨wr.heap.size + 1, 0, none⟩)] rfl rfl (cell_one_new _ _ _) (by simp [Value.oneCell']) (by unfold maxLen; omega) (by omega) (Nat.zero_le _) ?_); intro v' w4 hown' hgrow hnil hat; obtain ⟨g', c', rfl⟩ := row_slice hown')
          obtain ⟨q4, b4⟩ := mi_kid Q.out (by omega) hlt Y3.out L3.out hgrow hown' hat
          go_roundw
          case rel => exact ⟨kidTr T 0 3 (born (T.cause 0)) sv3 (wr.heap.size + 1) wr.heap.size, g', c', rfl, q4, BB.out.trans (b4.mono D.out)⟩
          case measure => simp only [slen]; omega
        · have hcell : wr.cell? ⟨g, i, none⟩ = some (.pointer (some ⟨T.blk i, 0, none⟩)) := row_at Q.out.l.row (ptrs_get _ _ i hi)
          have u1 : decide ((i : Int) < 0) = false := by simp only [decide_eq_false_iff_not]; omega
          have u2 : decide ((T.n : Int) ≤ (i : Int)) = false := by simp only [decide_eq_false_iff_not]; omega
          clear q
          go_wp2_with fail
          refine (sy_child wr Q.out.y i hi 3 (by omega) (by omega) hlt).mono ?_
          rintro e w3 ⟨rfl, sv3, y3, f3, s3⟩
          have l3 : Ls w1.heap.size w3 (kidTr T i 3 (born (T.cause i)) sv3 (wr.heap.size + 1) wr.heap.size) (.slice (some ⟨g, 0, none⟩) T.n c) T.n (ptrs T.blk T.n) := Q.out.l.kept s3 f3
          have Y3 : Hid _ := y3
          have L3 : Hid _ := l3
          have BB : Hid (Below w.heap.size w w3) := bb.trans ((Q.out.y.below s3).mono D.out)
          clear y3 l3 f3 s3
          go_wp2_with (at_builtin; go_loud (refine wpList_append_own_at _ rfl (.tmp 64) (.tmp 66) 31 rfl 0 25 i0 (.pointer none) 1 8 Try.underlying31 hi0 hz0 hz1 hz2 rfl (by decide) _ T.n (ptrs T.blk T.n) rfl (L3.out.row.alloc _) ⟨w3.heap.size, 0, none⟩ 1 1 [.pointer (some ⟨wr.heap.size + 1, 0, none⟩)] rfl rfl (cell_one_new _ _ _) (by simp [Value.oneCell']) (by unfold maxLen; omega) (by omega) (Nat.zero_le _) ?_); intro v' w4 hown' hgrow hnil hat; obtain ⟨g', c', rfl⟩ := row_slice hown')
          obtain ⟨q4, b4⟩ := mi_kid Q.out hi hlt Y3.out L3.out hgrow hown' hat
          go_roundw
          case rel => exact ⟨kidTr T i 3 (born (T.cause i)) sv3 (wr.heap.size + 1) wr.heap.size, g', c', rfl, q4, BB.out.trans (b4.mono D.out)⟩
          case measure => simp only [slen]; omega
    · have hn : T.n = 256 := by omega
      have hcell : wr.cell? ⟨g, 255, none⟩ = some (.pointer (some ⟨T.blk 255, 0, none⟩)) := row_at Q.out.l.row (ptrs_get _ _ 255 (by omega))
      have hlt' : decide ((T.n : Int) < 256) = false := by simp only [decide_eq_false_iff_not]; omega
      have b2 : (255 : Int) < (T.n : Int) := by omega
      have b3 : 255 < T.n := by omega
      have HN : Hid _ := hn
      clear q hn n2 hlt
      go_wp2_with fail
      refine (child_many wr Q.out.y.h 255 b3 3 (by omega) (by omega) (by have := HN.out; omega)).mono ?_
      rintro e w3 ⟨rfl, h3, s3⟩
      go_wp2_with fail
      refine (child_no ⟨w1.heap.size + 2, 0, none⟩ (-1) w3 (by omega)).mono ?_
      rintro e w4 ⟨rfl, hw⟩
      subst w4
      have hcell3 : w3.cell? ⟨g, 255, none⟩ = some (.pointer (some ⟨T.blk 255, 0, none⟩)) := row_at (Q.out.l.kept s3 (T' := T) fun _ h => .inl h).row (ptrs_get _ _ 255 b3)
      have hnz : ∀ k, k < T.n → T.left k ≠ 0 := fun k hk => by have := (Q.out.lc k hk).1; omega
      go_wp2_with fail
      refine (beat_take w3 h3 Q.out.y.rng 255 b3 (Q.out.lc 255 b3).2 (spent_full T.par T.left T.n 255 b3 h3.par hnz)).mono ?_
      rintro e w5 ⟨rfl, h5, s5⟩
      have hr0 : (⟨(mTake T 255).blk 0, 0, none⟩ : Addr) = ⟨w1.heap.size + 2, 0, none⟩ := by
        show (⟨T.blk 0, 0, none⟩ : Addr) = _
        rw [Q.out.r0]
      have hl2 : (mTake T 255).left 0 = 2 := by
        show dec T.par T.left 255 0 = 2
        unfold dec
        rw [dec_char T.par T.n h3.par (255 + 1) 255 b3 T.left 0, if_pos (zero_mem_up T.par T.n h3.par Q.out.ps (255 + 1) 255 (by omega) b3), (Q.out.lc 0 (by omega)).1]
        rfl
      go_wp2_with fail
      refine (left_val w5 h5 0 (show 0 < T.n by omega) _ hr0 2 hl2).mono ?_
      rintro e w6 ⟨rfl, h6, s6⟩
      go_wp2_with fail
      go_ret
      have y3 : Sy w1.heap.size w3 T := ⟨h3, Q.out.y.rng, Q.out.y.cl, Q.out.y.lo⟩
      exact ⟨rfl, ((bb.trans ((Q.out.y.below s3).mono D.out)).trans ((y3.below s5).mono D.out)).trans ((one_lo h5 Q.out.y.lo s6).mono D.out)⟩
end Go.Proofs.Ytkkkndbfokjikaa.haltMany
