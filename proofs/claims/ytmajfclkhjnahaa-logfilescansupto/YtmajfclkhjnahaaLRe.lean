/- What is proved: the document's scanner in memory: entry; no condition. -/
import Derived.Test.YtmajfclkhjnahaaLRb
namespace Go.Proofs.Ytmajfclkhjnahaa
open Go.RowKit

section
variable {w w' : World} {rb : Nat} {oa : Option Addr} {c : Nat} {d : List Int} {en : Bool} {s : Sc}
set_option maxRecDepth 100000 in
set_option maxHeartbeats 3200000 in
theorem rentry_any (h : Rs w rb oa c d en s) (h0 : s.er = 0) : Calls Try.prog 20 #[.pointer (some ⟨rb, 0, none⟩)] w fun x w' => RsR w rb oa c d en (entry d en s) x w' := by
  have hle := h.arg.le
  have hlt := h.lt
  have hd : Hid (∀ k, InB oa d.length k → k < w.heap.size) := fun k hk => h.arg.data.lt hk
  obtain ⟨m, z, e, hq⟩ : ∃ m z e, num 8 (d.drop s.pl) = (m, z, e) := ⟨_, _, _, rfl⟩
  by_cases hbody : e = 0 ∧ m ≤ 512 ∧ m ≠ 0 ∧ s.ct < 4096 ∧ s.pl + z + m ≤ d.length
  · obtain ⟨rfl, b1, b2, b3, b4⟩ := hbody
    exact rentry_body h h0 hq b1 b2 b3 b4
  have HBD : Hid _ := hbody
  clear hbody
  have HR : Hid (∀ k, Rs (((w.alloc (.cells txz 37 (0, 0))).alloc (.cells txz 37 (0, 0))).drewN k) rb oa c d en s) := fun k => h.on ((((Same.refl _ w).alloc _).alloc _).drewN k)
  have HAT : Hid (∀ k, Calls Try.prog 32 #[.slice oa d.length c, .int .i64 (s.pl : Int)] (((w.alloc (.cells txz 37 (0, 0))).alloc (.cells txz 37 (0, 0))).drewN k) fun x w' => x = .returned (.tuple #[.int .i64 (m : Int), .int .i64 (z : Int), .int .i64 e]) ∧ w' = (((w.alloc (.cells txz 37 (0, 0))).alloc (.cells txz 37 (0, 0))).drewN k)) := fun k => by
    have := at_any (((w.alloc (.cells txz 37 (0, 0))).alloc (.cells txz 37 (0, 0))).drewN k) oa c d s.pl (HR.out k).arg.data h.arg.byts (by omega) h.ple
    rw [hq] at this
    exact this
  have HE : Hid _ := entry_of (en := en) hq
  have hone := num_one (k := 8) (l := d.drop s.pl) (Nat.le_refl _) (h.arg.byts.drop _)
  rw [hq, List.length_drop] at hone
  have HO : Hid _ := hone
  obtain ⟨c0, -, c2, c3, -, -⟩ := h.cells
  have H0 : Hid _ := h0
  have HPL : Hid _ := h.ple
  have HCT : Hid _ := h.cts
  obtain ⟨n, en'⟩ : ∃ n, n = d.length := ⟨_, rfl⟩
  have EN : Hid _ := en'
  rw [← en'] at c0 HAT hle
  have hni : (n : Int) ≤ 140737488351232 := by omega
  have hpi : (s.pl : Int) ≤ (n : Int) := by have := h.ple; omega
  have hcti : (s.ct : Int) ≤ 4096 := by have := h.cts; omega
  clear h hq hone h0 en'
  go_enter Try.func20, Try.ntmps20
  go_wp2_with fail
  go_quiet ((go_at_call 32; exact Calls.quiet_of_same (HAT.out _)))
  by_cases he51 : e = 51
  · subst he51
    go_wp2_with fail
    go_region_with (go_at_call 18; refine Calls.mono (rmiss_any (HR.out _) H0.out s.pl HPL.out) ?_; rintro x w2 ⟨rfl, s2, k2⟩; have k3 := ((Same.refl (fun k => k = rb) _).drewN _).trans' k2; obtain ⟨b1, b2⟩ := two_box k3 hlt; obtain ⟨⟨m0, m1, m2, m3, m4, m5, m6, m7⟩, f0, f1, f2, f3, f4, f5, f6, f7⟩ := tx_obj b1; obtain ⟨⟨u0, u1, u2, u3, u4, u5, u6, u7⟩, -⟩ := tx_obj b2; have S2 : Hid _ := s2; have K3 : Hid _ := k3; have B1 : Hid _ := b1; clear s2 k2 k3 b1 b2)
    all_goals go_wp2_with fail
    all_goals refine bodyPost_ret (res_ctt (a := 2) (t := 37) (u := 3) (s := 4) rfl rfl (loadVar_tx (put8_at B1.out _ _ _ _ _ _ _ _))) rfl ?_
    all_goals rw [HE.out, if_pos (by decide)]
    all_goals exact rs_none K3.out hlt S2.out hd.out _ (put8_same _ _ _ _ _ _ _ _ _ _)
  · have g1 : (e == 51) = false := by simpa using he51
    by_cases he0 : e = 0
    · subst he0
      obtain ⟨-, o1, o2, o3, -, -⟩ := HO.out rfl
      by_cases hm : 512 < m
      · have g3 : decide ((m : Int) > 512) = true := decide_eq_true (by omega)
        have g3' : 512 < (m : Int) := by omega
        have HMM : Hid _ := hm
        clear hm o1 o2 o3
        go_wp2_with fail
        go_region_with (go_at_call 19; refine Calls.mono (rfail_any (HR.out _) s.pl HPL.out 53) ?_; rintro x w2 ⟨rfl, s2, k2⟩; have k3 := ((Same.refl (fun k => k = rb) _).drewN _).trans' k2; obtain ⟨b1, b2⟩ := two_box k3 hlt; obtain ⟨⟨m0, m1, m2, m3, m4, m5, m6, m7⟩, f0, f1, f2, f3, f4, f5, f6, f7⟩ := tx_obj b1; obtain ⟨⟨u0, u1, u2, u3, u4, u5, u6, u7⟩, -⟩ := tx_obj b2; have S2 : Hid _ := s2; have K3 : Hid _ := k3; have B1 : Hid _ := b1; clear s2 k2 k3 b1 b2)
        all_goals go_wp2_with fail
        all_goals refine bodyPost_ret (res_ctt (a := 2) (t := 37) (u := 3) (s := 4) rfl rfl (loadVar_tx (put8_at B1.out _ _ _ _ _ _ _ _))) rfl ?_
        all_goals rw [HE.out, if_neg (by decide), if_pos HMM.out]
        all_goals exact rs_none K3.out hlt S2.out hd.out _ (put8_same _ _ _ _ _ _ _ _ _ _)
      · have g3 : decide ((m : Int) > 512) = false := decide_eq_false (by omega)
        have g3' : (m : Int) ≤ 512 := by omega
        have HMM : Hid _ := hm
        clear hm
        by_cases hm0 : m = 0
        · subst hm0
          have HP1 : Hid (s.pl + 1 ≤ d.length) := by show s.pl + 1 ≤ d.length; omega
          clear o1 o2 o3
          go_wp2_with fail
          go_region_with (go_at_call 33; refine Calls.mono (rfoot_any (HR.out _) H0.out HP1.out) ?_; rintro x w2 ⟨rfl, s2, k2⟩; have k3 := ((Same.refl (fun k => k = rb) _).drewN _).trans' k2; obtain ⟨b1, b2⟩ := two_box k3 hlt; obtain ⟨⟨m0, m1, m2, m3, m4, m5, m6, m7⟩, f0, f1, f2, f3, f4, f5, f6, f7⟩ := tx_obj b1; obtain ⟨⟨u0, u1, u2, u3, u4, u5, u6, u7⟩, -⟩ := tx_obj b2; have S2 : Hid _ := s2; have K3 : Hid _ := k3; have B1 : Hid _ := b1; clear s2 k2 k3 b1 b2)
          all_goals go_wp2_with fail
          all_goals refine bodyPost_ret (res_ctt (a := 2) (t := 37) (u := 3) (s := 4) rfl rfl (loadVar_tx (put8_at B1.out _ _ _ _ _ _ _ _))) rfl ?_
          all_goals rw [HE.out, if_neg (by decide), if_neg (by decide), if_pos trivial]
          all_goals exact rs_none K3.out hlt S2.out hd.out _ (put8_same _ _ _ _ _ _ _ _ _ _)
        · have g4 : ((m : Int) == 0) = false := by simpa using hm0
          have HM0 : Hid _ := hm0
          clear hm0
          by_cases hc : 4096 ≤ s.ct
          · have g5 : decide ((s.ct : Int) ≥ 4096) = true := decide_eq_true (by omega)
            have g5' : 4096 ≤ (s.ct : Int) := by omega
            have HC : Hid _ := hc
            clear hc o1 o2 o3
            go_wp2_with fail
            go_region_with (go_at_call 19; refine Calls.mono (rfail_any (HR.out _) s.pl HPL.out 71) ?_; rintro x w2 ⟨rfl, s2, k2⟩; have k3 := ((Same.refl (fun k => k = rb) _).drewN _).trans' k2; obtain ⟨b1, b2⟩ := two_box k3 hlt; obtain ⟨⟨m0, m1, m2, m3, m4, m5, m6, m7⟩, f0, f1, f2, f3, f4, f5, f6, f7⟩ := tx_obj b1; obtain ⟨⟨u0, u1, u2, u3, u4, u5, u6, u7⟩, -⟩ := tx_obj b2; have S2 : Hid _ := s2; have K3 : Hid _ := k3; have B1 : Hid _ := b1; clear s2 k2 k3 b1 b2)
            all_goals go_wp2_with fail
            all_goals refine bodyPost_ret (res_ctt (a := 2) (t := 37) (u := 3) (s := 4) rfl rfl (loadVar_tx (put8_at B1.out _ _ _ _ _ _ _ _))) rfl ?_
            all_goals rw [HE.out, if_neg (by decide), if_neg HMM.out, if_neg HM0.out, if_pos HC.out]
            all_goals exact rs_none K3.out hlt S2.out hd.out _ (put8_same _ _ _ _ _ _ _ _ _ _)
          · have g5 : decide ((s.ct : Int) ≥ 4096) = false := decide_eq_false (by omega)
            have g5' : (s.ct : Int) < 4096 := by omega
            have HC : Hid _ := hc
            obtain ⟨R, eR⟩ : ∃ R, R = n - s.pl - z := ⟨_, rfl⟩
            have hen := EN.out
            have hpl := HPL.out
            have hR1 : (n : Int) - (s.pl : Int) - (z : Int) = (R : Int) := by omega
            have hzi : (z : Int) ≤ 8 := by omega
            have hRi : (R : Int) ≤ 140737488351232 := by omega
            have ER : Hid _ := eR
            by_cases hl : d.length < s.pl + z + m
            · have g6 : decide ((m : Int) > (R : Int)) = true := decide_eq_true (by omega)
              have g6' : (R : Int) < (m : Int) := by omega
              have HL : Hid _ := hl
              clear hc hl o1 o2 o3 eR hen hpl
              go_wp2_with fail
              go_quiet (fail)
              go_wp2_with fail
              go_region_with (go_at_call 18; refine Calls.mono (rmiss_any (HR.out _) H0.out s.pl HPL.out) ?_; rintro x w2 ⟨rfl, s2, k2⟩; have k3 := ((Same.refl (fun k => k = rb) _).drewN _).trans' k2; obtain ⟨b1, b2⟩ := two_box k3 hlt; obtain ⟨⟨m0, m1, m2, m3, m4, m5, m6, m7⟩, f0, f1, f2, f3, f4, f5, f6, f7⟩ := tx_obj b1; obtain ⟨⟨u0, u1, u2, u3, u4, u5, u6, u7⟩, -⟩ := tx_obj b2; have S2 : Hid _ := s2; have K3 : Hid _ := k3; have B1 : Hid _ := b1; clear s2 k2 k3 b1 b2)
              all_goals go_wp2_with fail
              all_goals refine bodyPost_ret (res_ctt (a := 2) (t := 37) (u := 3) (s := 4) rfl rfl (loadVar_tx (put8_at B1.out _ _ _ _ _ _ _ _))) rfl ?_
              all_goals rw [HE.out, if_neg (by decide), if_neg HMM.out, if_neg HM0.out, if_neg HC.out, if_pos HL.out]
              all_goals exact rs_none K3.out hlt S2.out hd.out _ (put8_same _ _ _ _ _ _ _ _ _ _)
            · exact absurd ⟨rfl, Nat.le_of_not_lt HMM.out, HM0.out, Nat.lt_of_not_le hc, Nat.le_of_not_lt hl⟩ HBD.out
    · have g2 : (e != 0) = true := by simpa using he0
      have HE1 : Hid _ := he51
      have HE2 : Hid _ := he0
      clear he51 he0
      go_wp2_with fail
      go_region_with (go_at_call 19; refine Calls.mono (rfail_any (HR.out _) s.pl HPL.out e) ?_; rintro x w2 ⟨rfl, s2, k2⟩; have k3 := ((Same.refl (fun k => k = rb) _).drewN _).trans' k2; obtain ⟨b1, b2⟩ := two_box k3 hlt; obtain ⟨⟨m0, m1, m2, m3, m4, m5, m6, m7⟩, f0, f1, f2, f3, f4, f5, f6, f7⟩ := tx_obj b1; obtain ⟨⟨u0, u1, u2, u3, u4, u5, u6, u7⟩, -⟩ := tx_obj b2; have S2 : Hid _ := s2; have K3 : Hid _ := k3; have B1 : Hid _ := b1; clear s2 k2 k3 b1 b2)
      all_goals go_wp2_with fail
      all_goals refine bodyPost_ret (res_ctt (a := 2) (t := 37) (u := 3) (s := 4) rfl rfl (loadVar_tx (put8_at B1.out _ _ _ _ _ _ _ _))) rfl ?_
      all_goals rw [HE.out, if_pos HE2.out, stop_ne _ _ _ HE1.out]
      all_goals exact rs_none K3.out hlt S2.out hd.out _ (put8_same _ _ _ _ _ _ _ _ _ _)
end
end Go.Proofs.Ytmajfclkhjnahaa
