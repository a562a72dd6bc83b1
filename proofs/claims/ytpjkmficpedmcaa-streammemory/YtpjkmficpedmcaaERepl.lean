/- What is proved: slices.Replace of a part of a row of extents by at most one extent more than it had. -/
import Derived.Test.YtpjkmficpedmcaaEIns
namespace Go.Proofs.Ytpjkmficpedmcaa
open Go.RowKit
set_option maxRecDepth 100000

theorem Repl.from {w W : World} {hb : Nat} {L : List Ex} {v : Value} {w' : World} (h : Repl W hb L v w') (k : Kept w W) : Repl w hb L v w' := by
  obtain ⟨hb', c', h1, h2, h3, h4⟩ := h
  exact ⟨hb', c', h1, h2, h3.imp id (Nat.le_trans k.size), (k.to _).trans' h4⟩

set_option maxRecDepth 100000 in
set_option maxHeartbeats 400000 in
theorem replace_same {w : World} {hb c vb vc i : Nat} {L V : List Ex} (hR : Row w hb c L) (hV : Row w vb vc V) (hne : vb ≠ hb) (hi : i ≤ L.length) (hm : V.length = 1) (b1 : L.length ≤ 4096) :
    Calls Try.prog 39 #[.slice (some ⟨hb, 0, none⟩) L.length c, .int .i64 (i : Int), .int .i64 (i : Int), .slice (some ⟨vb, 0, none⟩) V.length vc] w fun r w' => ∃ v, r = .returned v ∧ Repl w hb (L.take i ++ V ++ L.drop i) v w' := by
  have HI : Hid _ := insert_any hR hV hne hi hm b1
  have hle := hR.le
  rw [hm] at HI ⊢
  clear hm hR hV hne
  obtain ⟨n, en⟩ : ∃ n, n = L.length := ⟨_, rfl⟩
  rw [← en] at HI hi hle b1 ⊢
  clear en
  have hic : i ≤ c := by omega
  by_cases hci : c = i
  · subst hci
    go_enter Try.func39, Try.ntmps39
    go_wp2_with fail
    refine Calls.mono HI.out ?_
    rintro r w1 ⟨v, rfl, hv⟩
    have HV : Hid _ := hv
    clear hv
    go_wp2_with fail
    go_ret
    exact ⟨v, rfl, HV.out⟩
  · go_enter Try.func39, Try.ntmps39
    go_wp2_with fail
    refine Calls.mono HI.out ?_
    rintro r w1 ⟨v, rfl, hv⟩
    have HV : Hid _ := hv
    clear hv
    go_wp2_with fail
    go_ret
    exact ⟨v, rfl, HV.out⟩

set_option maxRecDepth 100000 in
set_option maxHeartbeats 400000 in
theorem replace_end {w : World} {hb c vb vc i : Nat} {L V : List Ex} (hR : Row w hb c L) (hV : Row w vb vc V) (hi : i < L.length) (hm : L.length ≤ i + V.length) (b1 : L.length ≤ 4096) (b2 : V.length ≤ 5000) :
    Calls Try.prog 39 #[.slice (some ⟨hb, 0, none⟩) L.length c, .int .i64 (i : Int), .int .i64 (L.length : Int), .slice (some ⟨vb, 0, none⟩) V.length vc] w fun r w' => ∃ v, r = .returned v ∧ Repl w hb (L.take i ++ V) v w' := by
  have li : (L.take i).length = i := by rw [List.length_take]; omega
  have HA : Hid (∀ ty, ∃ v' w', (Builtin.append_ #[61, 61] ty #[.slice (some ⟨hb, 0, none⟩) i c, .slice (some ⟨vb, 0, none⟩) V.length vc]).run Try.prog w = .ok v' w' ∧ ∃ g c', v' = .slice (some ⟨g, 0, none⟩) (i + V.length) c' ∧ Repl w hb (L.take i ++ V) v' w') := fun ty => by
    by_cases hr : i + V.length ≤ c
    · obtain ⟨w', r1, r2, r3⟩ := app_row (X := L.take i) (R := L.drop i) (vc := vc) (by rw [List.take_append_drop]; exact hR) li hV.exts hr ty
      exact ⟨_, w', r1, hb, c, rfl, hb, c, by rw [List.length_append, li], r2.prefix, .inl rfl, r3⟩
    · have hI : Row w hb c (L.take i) := by
        refine Row.prefix (R := L.drop i) ?_
        rw [List.take_append_drop]; exact hR
      obtain ⟨w', c', r1, r2, r3⟩ := app_grow (bb := hb) (bo := 0) (c := c) (vc := vc) li hI.exts hV.exts (by omega) (by omega) ty
      exact ⟨_, w', r1, _, c', rfl, _, c', by rw [List.length_append, li], r2, .inr (Nat.le_refl _), r3.to _⟩
  have hle := hR.le
  obtain ⟨n, en⟩ : ∃ n, n = L.length := ⟨_, rfl⟩
  obtain ⟨m, em⟩ : ∃ m, m = V.length := ⟨_, rfl⟩
  rw [← em] at HA hm b2 ⊢
  rw [← en] at hm hi hle b1 ⊢
  clear hR hV en em li
  have hne1 : ((i : Int) == (n : Int)) = false := by simp; omega
  have hic : i ≤ c := by omega
  have hin : i ≤ n := by omega
  have hin2 : (i : Int) ≤ (n : Int) := by omega
  have hc0 : ¬ (c = i) := by omega
  have hlt : ¬ ((i : Int) + (m : Int) < (n : Int)) := by omega
  have hlt2 : ¬ (((i + m : Nat) : Int) < (n : Int)) := by omega
  go_enter Try.func39, Try.ntmps39
  go_wp2_with (at_builtin; refine ewpList_app rfl (.tmp 32) (.tmp 33) 61 rfl _ _ rfl rfl _ HA.out ?_; rintro v' w1 ⟨g, c', rfl, hR⟩)
  all_goals (go_ret; exact ⟨_, rfl, hR⟩)

set_option maxRecDepth 100000 in
set_option maxHeartbeats 400000 in
theorem replace_less {w : World} {hb c vb vc i : Nat} {L V : List Ex} (hR : Row w hb c L) (hV : Row w vb vc V) (hi : i < L.length) (hm : i + V.length < L.length) (b1 : L.length ≤ 4096) :
    Calls Try.prog 39 #[.slice (some ⟨hb, 0, none⟩) L.length c, .int .i64 (i : Int), .int .i64 (L.length : Int), .slice (some ⟨vb, 0, none⟩) V.length vc] w fun r w' => ∃ v, r = .returned v ∧ Repl w hb (L.take i ++ V) v w' := by
  have li : (L.take i).length = i := by rw [List.length_take]; omega
  have hle := hR.le
  have HA : Hid (∀ ty, ∃ v' w', (Builtin.append_ #[61, 61] ty #[.slice (some ⟨hb, 0, none⟩) i c, .slice (some ⟨vb, 0, none⟩) V.length vc]).run Try.prog w = .ok v' w' ∧ ∃ w2, v' = .slice (some ⟨hb, 0, none⟩) (i + V.length) c ∧
      (∀ ty cap, (Builtin.clear_ #[61] ty #[.slice (some ⟨hb, (i + V.length) * 2, none⟩) (L.length - (i + V.length)) cap]).run Try.prog w' = .ok (.tuple #[]) w2) ∧ Repl w hb (L.take i ++ V) v' w2) := fun ty => by
    obtain ⟨w', r1, r2, r3⟩ := app_row (X := L.take i) (R := L.drop i) (vc := vc) (by rw [List.take_append_drop]; exact hR) li hV.exts (by omega) ty
    obtain ⟨w2, q1, q2, q3⟩ := clear_row (o := (i + V.length) * 2) (n := L.length - (i + V.length)) r2 (by rw [List.length_append, li]) (by rw [List.length_append, li]; omega)
    exact ⟨_, w', r1, w2, rfl, q1, hb, c, by rw [List.length_append, li], q2, .inl rfl, r3.trans' q3⟩
  obtain ⟨n, en⟩ : ∃ n, n = L.length := ⟨_, rfl⟩
  obtain ⟨m, em⟩ : ∃ m, m = V.length := ⟨_, rfl⟩
  rw [← em] at HA hm ⊢
  rw [← en] at HA hm hi hle b1 ⊢
  clear hR hV en em li
  have hne1 : ((i : Int) == (n : Int)) = false := by simp; omega
  have hic : i ≤ c := by omega
  have hin : i ≤ n := by omega
  have hin2 : (i : Int) ≤ (n : Int) := by omega
  have hc0 : ¬ (c = i) := by omega
  have hc1 : ¬ (c = i + m) := by omega
  have hlt : (i : Int) + (m : Int) < (n : Int) := by omega
  have hlt2 : (i : Int) + (m : Int) ≤ (n : Int) := by omega
  have hz : (0 : Int) ≤ (i : Int) + (m : Int) := by omega
  have htn : ((i : Int) + (m : Int)).toNat = i + m := by omega
  go_enter Try.func39, Try.ntmps39
  go_wp2_with (first
    | (at_builtin; refine ewpList_app rfl (.tmp 32) (.tmp 33) 61 rfl _ _ rfl rfl _ HA.out ?_; rintro v' w1 ⟨w2, rfl, hcl, hR⟩)
    | (at_builtin; refine wpList_cl rfl (.tmp 43) 61 rfl _ rfl (hcl _ _) ?_))
  all_goals (go_ret; exact ⟨_, rfl, hR⟩)

set_option maxRecDepth 100000 in
set_option maxHeartbeats 400000 in
theorem replace_grow {w : World} {hb c vb vc i j : Nat} {L V : List Ex} (hR : Row w hb c L) (hV : Row w vb vc V) (hij : i < j) (hj : j < L.length) (hr : c < i + V.length + (L.length - j)) (b1 : L.length ≤ 4096) (b2 : V.length ≤ 5000) :
    Calls Try.prog 39 #[.slice (some ⟨hb, 0, none⟩) L.length c, .int .i64 (i : Int), .int .i64 (j : Int), .slice (some ⟨vb, 0, none⟩) V.length vc] w fun r w' => ∃ v, r = .returned v ∧ Repl w hb (L.take i ++ V ++ L.drop j) v w' := by
  have hle := hR.le
  have HG : Hid (∀ W, Kept w W → ∀ ty, _) := fun W (kW : Kept w W) ty => grow2 (i := i) (j := j) (z := V.length + (L.length - j)) (hR.kept kW (fun h => h)) (hV.kept kW (fun h => h)) (Nat.le_of_lt hij) hj rfl (by omega) (by omega) ty
  rw [← Nat.add_assoc] at HG
  obtain ⟨n, en⟩ : ∃ n, n = L.length := ⟨_, rfl⟩
  obtain ⟨m, em⟩ : ∃ m, m = V.length := ⟨_, rfl⟩
  rw [← em] at HG hr b2 ⊢
  rw [← en] at HG hr hj hle b1 ⊢
  clear hR hV en em
  obtain ⟨z, ez⟩ : ∃ z, z = m + (n - j) := ⟨_, rfl⟩
  obtain ⟨tot, et⟩ : ∃ tot, tot = i + m + (n - j) := ⟨_, rfl⟩
  rw [← et, ← ez] at HG
  have hne1 : ((i : Int) == (j : Int)) = false := by simp; omega
  have hne2 : ((j : Int) == (n : Int)) = false := by simp; omega
  have hic : i ≤ c := by omega
  have hin : i ≤ n := by omega
  have hij2 : (i : Int) ≤ (j : Int) := by omega
  have hjn2 : (j : Int) ≤ (n : Int) := by omega
  have hc0 : ¬ (c = i) := by omega
  have hc1 : ¬ (c = j) := by omega
  have hsum : (i : Int) + (m : Int) + ((n - j : Nat) : Int) = (tot : Int) := by omega
  have hz1 : (0 : Int) ≤ (i : Int) + (m : Int) := by omega
  have htn : ((i : Int) + (m : Int)).toNat = i + m := by omega
  have hle1 : (i : Int) + (m : Int) ≤ (tot : Int) := by omega
  have hle2 : (i : Int) ≤ (tot : Int) := by omega
  have hle3 : i ≤ tot := by omega
  have hgt : (c : Int) < (tot : Int) := by omega
  have hsub : (tot : Int) - (i : Int) = (z : Int) := by omega
  have EZ : Hid _ := ez
  have ET : Hid _ := et
  clear ez et hr
  go_enter Try.func39, Try.ntmps39
  go_wp2_with fail
  go_quiet (fail)
  go_wp2_with (at_builtin; refine wpList_apz rfl (.tmp 63) (.tmp 66) 61 3 rfl _ _ rfl rfl _ (HG.out _ (Same.drewN (Same.refl _ _) _)) ?_; rintro v' w1 ⟨g, c', w2, w3, rfl, hc', HC1, HC2, HQ⟩)
  have hcp2 := HC2 (c' - (i + m)) (c - j)
  have hb5 : ¬ (c' = i + m) := by have := ET.out; omega
  have HQ' : Hid _ := HQ
  clear HQ HC1 HC2
  go_region
  go_wp2_with fail
  go_ret
  exact ⟨_, rfl, Repl.from HQ'.out (Same.drewN (Same.refl _ _) _)⟩

set_option maxRecDepth 100000 in
set_option maxHeartbeats 400000 in
theorem replace_more {w : World} {hb c vb vc i j : Nat} {L V : List Ex} (hR : Row w hb c L) (hV : Row w vb vc V) (hne : vb ≠ hb) (hij : i < j) (hj : j < L.length) (hm : i + V.length = j + 1) (hr : i + V.length + (L.length - j) ≤ c) (b1 : L.length ≤ 4096) (b2 : V.length ≤ 5000) :
    Calls Try.prog 39 #[.slice (some ⟨hb, 0, none⟩) L.length c, .int .i64 (i : Int), .int .i64 (j : Int), .slice (some ⟨vb, 0, none⟩) V.length vc] w fun r w' => ∃ v, r = .returned v ∧ Repl w hb (L.take i ++ V ++ L.drop j) v w' := by
  have hle := hR.le
  have hvl := hV.le
  have HM : Hid (∀ W, Kept w W → (∀ o o' la ca lb cb, (callFunc 42 #[.slice (some ⟨hb, o, none⟩) la ca, .slice (some ⟨vb, o', none⟩) lb cb]).run Try.prog W = .ok (.value (.bool false)) W) ∧ ∃ w2 w3,
      (∀ dc sc, (Builtin.copy_ #[61, 61] 3 #[.slice (some ⟨hb, (i + V.length) * 2, none⟩) (i + V.length + (L.length - j) - (i + V.length)) dc, .slice (some ⟨hb, j * 2, none⟩) (L.length - j) sc]).run Try.prog W.drew = .ok (goInt (L.length - j : Nat)) w2) ∧
      (∀ dc sc, (Builtin.copy_ #[61, 61] 3 #[.slice (some ⟨hb, i * 2, none⟩) (i + V.length + (L.length - j) - i) dc, .slice (some ⟨vb, 0, none⟩) V.length sc]).run Try.prog w2 = .ok (goInt V.length) w3) ∧
      Repl w hb (L.take i ++ V ++ L.drop j) (.slice (some ⟨hb, 0, none⟩) (i + V.length + (L.length - j)) c) w3) := fun W kW => by
    have hRW := hR.kept kW (fun h => h)
    have hVW := hV.kept kW (fun h => h)
    refine ⟨overlaps_no hRW hVW (fun e => hne e.symm) (by omega), ?_⟩
    have kd : Kept W W.drew := Same.drew (Same.refl _ _)
    have hRd : Row W.drew hb c (L.take (i + V.length) ++ L.drop (i + V.length)) := by rw [List.take_append_drop]; exact hRW.kept kd (fun h => h)
    have l1 : (L.take (i + V.length)).length = i + V.length := by rw [List.length_take]; omega
    obtain ⟨w2, HC1, q1, k1⟩ := copy_row (o := (i + V.length) * 2) (dLen := i + V.length + (L.length - j) - (i + V.length)) (sLen := L.length - j) hRd (by rw [l1]) ((hRW.kept kd (fun h => h)).cut j) (by simp only [List.length_drop, Nat.min_def]; split <;> omega) (by rw [l1, List.length_drop]; omega)
    have e1 : L.take (i + V.length) ++ L.drop j ++ (L.drop (i + V.length)).drop (L.drop j).length = L.take i ++ ((L.drop i).take V.length ++ L.drop j) := by
      have e0 : (L.drop (i + V.length)).drop (L.drop j).length = [] := List.drop_eq_nil_of_le (by simp only [List.length_drop]; omega)
      rw [e0, List.append_nil, ← List.append_assoc, ← List.take_add]
    rw [e1] at q1
    have l2 : (L.take i).length = i := by rw [List.length_take]; omega
    have l3 : ((L.drop i).take V.length).length = V.length := by rw [List.length_take, List.length_drop]; omega
    obtain ⟨w3, HC2, q2, k2⟩ := copy_row (o := i * 2) (dLen := i + V.length + (L.length - j) - i) (sLen := V.length) q1 (by rw [l2]) ((hVW.kept kd (fun h => h)).kept k1 hne).exts (by simp only [Nat.min_def]; split <;> omega) (by rw [l2]; omega)
    rw [List.drop_left' l3] at q2
    rw [List.length_drop] at HC1
    refine ⟨w2, w3, HC1, HC2, hb, c, ?_, q2, .inl rfl, (kW.to _).trans' (((kd.to _).trans' k1).trans' k2)⟩
    congr 1
    simp only [List.length_append, l2, List.length_drop]
  obtain ⟨n, en⟩ : ∃ n, n = L.length := ⟨_, rfl⟩
  obtain ⟨m, em⟩ : ∃ m, m = V.length := ⟨_, rfl⟩
  rw [← em] at HM hm hvl hr b2 ⊢
  rw [← en] at HM hr hj hle b1 ⊢
  clear hR hV en em
  obtain ⟨tot, et⟩ : ∃ tot, tot = i + m + (n - j) := ⟨_, rfl⟩
  rw [← et] at HM
  have hne1 : ((i : Int) == (j : Int)) = false := by simp; omega
  have hne2 : ((j : Int) == (n : Int)) = false := by simp; omega
  have hic : i ≤ c := by omega
  have hin : i ≤ n := by omega
  have hij2 : (i : Int) ≤ (j : Int) := by omega
  have hjn2 : (j : Int) ≤ (n : Int) := by omega
  have hc0 : ¬ (c = i) := by omega
  have hc1 : ¬ (c = j) := by omega
  have hsum : (i : Int) + (m : Int) + ((n - j : Nat) : Int) = (tot : Int) := by omega
  have hz1 : (0 : Int) ≤ (i : Int) + (m : Int) := by omega
  have htn : ((i : Int) + (m : Int)).toNat = i + m := by omega
  have hle1 : (i : Int) + (m : Int) ≤ (tot : Int) := by omega
  have hle2 : (i : Int) ≤ (tot : Int) := by omega
  have hle3 : i ≤ tot := by omega
  have hgt : ¬ ((c : Int) < (tot : Int)) := by omega
  have hgt2 : (tot : Int) ≤ (c : Int) := by omega
  have htc : tot ≤ c := by omega
  have hmj : ¬ ((i : Int) + (m : Int) ≤ (j : Int)) := by omega
  have hc2 : ¬ (c = i + m) := by omega
  have ET : Hid _ := et
  clear et hr hm
  go_enter Try.func39, Try.ntmps39
  go_wp2_with fail
  go_quiet (fail)
  obtain ⟨W, eW⟩ : ∃ W, W = w.drewN nq := ⟨_, rfl⟩
  have KW : Hid (Kept w W) := by rw [eW]; exact Same.drewN (Same.refl _ _) _
  rw [← eW]
  clear eW
  obtain ⟨hov, w2, w3, HC1, HC2, HQ⟩ := HM.out W KW.out
  have HOV : Hid _ := hov
  have HC2' : Hid _ := HC2
  have HQ' : Hid _ := HQ
  have hcp1 := HC1 (c - (i + m)) (c - j)
  clear hov HQ HC1 HC2
  go_wp2_with (simp only [HOV.out])
  go_region
  have hcp2 := HC2'.out (c - i) vc
  go_wp2_with fail
  go_ret
  exact ⟨_, rfl, HQ'.out⟩

theorem clear_none (w : World) (a : Option Addr) (ty : TypeId) (cap : Nat) : (Builtin.clear_ #[61] ty #[.slice a 0 cap]).run Try.prog w = .ok (.tuple #[]) w := by
  cases a <;> simp [Builtin.clear_, run_underlying Try.underlying61]

/-- The two copies where V fits in the part that goes. -/
theorem fits2 {w W : World} {hb c vb vc i j : Nat} {L V : List Ex} (kW : Kept w W) (hR : Row w hb c L) (hV : Row w vb vc V) (_hne : vb ≠ hb) (hj : j < L.length) (hm : i + V.length ≤ j) : ∃ w2 w3,
      (∀ dc sc, (Builtin.copy_ #[61, 61] 3 #[.slice (some ⟨hb, i * 2, none⟩) (i + V.length + (L.length - j) - i) dc, .slice (some ⟨vb, 0, none⟩) V.length sc]).run Try.prog W = .ok (goInt V.length) w2) ∧
      (∀ dc sc, (Builtin.copy_ #[61, 61] 3 #[.slice (some ⟨hb, (i + V.length) * 2, none⟩) (i + V.length + (L.length - j) - (i + V.length)) dc, .slice (some ⟨hb, j * 2, none⟩) (L.length - j) sc]).run Try.prog w2.drew = .ok (goInt (L.length - j : Nat)) w3) ∧
      (∃ R, Row w3 hb c (L.take i ++ V ++ L.drop j ++ R)) ∧ Same (fun k => k = hb) w w3 := by
  have hle := hR.le
  have hRW := hR.kept kW (fun h => h)
  have hVW := hV.kept kW (fun h => h)
  have hRd : Row W hb c (L.take i ++ L.drop i) := by rw [List.take_append_drop]; exact hRW
  have l1 : (L.take i).length = i := by rw [List.length_take]; omega
  obtain ⟨w2, HC1, q1, k1⟩ := copy_row (o := i * 2) (dLen := i + V.length + (L.length - j) - i) (sLen := V.length) hRd (by rw [l1]) hVW.exts (by simp only [Nat.min_def]; split <;> omega) (by rw [l1]; omega)
  have kd : Kept w2 w2.drew := Same.drew (Same.refl _ _)
  have hD : ExtsAt w2.drew (some ⟨hb, j * 2, none⟩) (L.drop j) := by
    have h0 := (q1.kept kd (fun h => h)).cut j
    have e : (L.take i ++ V ++ (L.drop i).drop V.length).drop j = L.drop j := by
      have l2 : (L.take i ++ V).length = i + V.length := by rw [List.length_append, l1]
      rw [List.drop_append, List.drop_eq_nil_of_le (by rw [l2]; omega), List.nil_append, l2, List.drop_drop, List.drop_drop]
      congr 1
      omega
    rw [e] at h0
    exact h0
  obtain ⟨w3, HC2, q2, k2⟩ := copy_row (o := (i + V.length) * 2) (dLen := i + V.length + (L.length - j) - (i + V.length)) (sLen := L.length - j) (q1.kept kd (fun h => h)) (by simp only [List.length_append, l1]) hD (by simp only [List.length_drop, Nat.min_def]; split <;> omega) (by simp only [List.length_append, l1, List.length_drop]; omega)
  rw [List.length_drop] at HC2
  exact ⟨w2, w3, HC1, HC2, ⟨_, q2⟩, (kW.to _).trans' ((k1.trans' (kd.to _)).trans' k2)⟩

set_option maxRecDepth 100000 in
set_option maxHeartbeats 400000 in
theorem replace_fits {w : World} {hb c vb vc i j : Nat} {L V : List Ex} (hR : Row w hb c L) (hV : Row w vb vc V) (hne : vb ≠ hb) (hij : i < j) (hj : j < L.length) (hm : i + V.length < j) (b1 : L.length ≤ 4096) (b2 : V.length ≤ 5000) :
    Calls Try.prog 39 #[.slice (some ⟨hb, 0, none⟩) L.length c, .int .i64 (i : Int), .int .i64 (j : Int), .slice (some ⟨vb, 0, none⟩) V.length vc] w fun r w' => ∃ v, r = .returned v ∧ Repl w hb (L.take i ++ V ++ L.drop j) v w' := by
  have hle := hR.le
  have HM : Hid (∀ W, Kept w W → ∃ w2 w3 w4,
      (∀ dc sc, (Builtin.copy_ #[61, 61] 3 #[.slice (some ⟨hb, i * 2, none⟩) (i + V.length + (L.length - j) - i) dc, .slice (some ⟨vb, 0, none⟩) V.length sc]).run Try.prog W = .ok (goInt V.length) w2) ∧
      (∀ dc sc, (Builtin.copy_ #[61, 61] 3 #[.slice (some ⟨hb, (i + V.length) * 2, none⟩) (i + V.length + (L.length - j) - (i + V.length)) dc, .slice (some ⟨hb, j * 2, none⟩) (L.length - j) sc]).run Try.prog w2.drew = .ok (goInt (L.length - j : Nat)) w3) ∧
      (∀ ty cap, (Builtin.clear_ #[61] ty #[.slice (some ⟨hb, (i + V.length + (L.length - j)) * 2, none⟩) (L.length - (i + V.length + (L.length - j))) cap]).run Try.prog w3 = .ok (.tuple #[]) w4) ∧
      Repl w hb (L.take i ++ V ++ L.drop j) (.slice (some ⟨hb, 0, none⟩) (i + V.length + (L.length - j)) c) w4) := fun W kW => by
    obtain ⟨w2, w3, h1, h2, ⟨R, q⟩, k⟩ := fits2 kW hR hV hne hj (Nat.le_of_lt hm)
    have l1 : (L.take i).length = i := by rw [List.length_take]; omega
    obtain ⟨w4, c1, c2, c3⟩ := clear_row (o := (i + V.length + (L.length - j)) * 2) (n := L.length - (i + V.length + (L.length - j))) q (by simp only [List.length_append, l1, List.length_drop]) (by simp only [List.length_append, l1, List.length_drop]; omega)
    exact ⟨w2, w3, w4, h1, h2, c1, hb, c, by simp only [List.length_append, l1, List.length_drop], c2, .inl rfl, k.trans' c3⟩
  obtain ⟨n, en⟩ : ∃ n, n = L.length := ⟨_, rfl⟩
  obtain ⟨m, em⟩ : ∃ m, m = V.length := ⟨_, rfl⟩
  rw [← em] at HM hm b2 ⊢
  rw [← en] at HM hj hle b1 ⊢
  clear hR hV en em
  obtain ⟨tot, et⟩ : ∃ tot, tot = i + m + (n - j) := ⟨_, rfl⟩
  rw [← et] at HM
  have hne1 : ((i : Int) == (j : Int)) = false := by simp; omega
  have hne2 : ((j : Int) == (n : Int)) = false := by simp; omega
  have hic : i ≤ c := by omega
  have hin : i ≤ n := by omega
  have hij2 : (i : Int) ≤ (j : Int) := by omega
  have hjn2 : (j : Int) ≤ (n : Int) := by omega
  have hc0 : ¬ (c = i) := by omega
  have hc1 : ¬ (c = j) := by omega
  have hsum : (i : Int) + (m : Int) + ((n - j : Nat) : Int) = (tot : Int) := by omega
  have hz1 : (0 : Int) ≤ (i : Int) + (m : Int) := by omega
  have htn : ((i : Int) + (m : Int)).toNat = i + m := by omega
  have hle1 : (i : Int) + (m : Int) ≤ (tot : Int) := by omega
  have hle2 : (i : Int) ≤ (tot : Int) := by omega
  have hle3 : i ≤ tot := by omega
  have hgt : ¬ ((c : Int) < (tot : Int)) := by omega
  have hgt2 : (tot : Int) ≤ (c : Int) := by omega
  have htc : tot ≤ c := by omega
  have hmj : (i : Int) + (m : Int) ≤ (j : Int) := by omega
  have hc2 : ¬ (c = i + m) := by omega
  have hc3 : ¬ (c = tot) := by omega
  have htn2 : (tot : Int) ≤ (n : Int) := by omega
  have ET : Hid _ := et
  clear et hm
  go_enter Try.func39, Try.ntmps39
  go_wp2_with fail
  go_quiet (fail)
  obtain ⟨W, eW⟩ : ∃ W, W = w.drewN nq := ⟨_, rfl⟩
  have KW : Hid (Kept w W) := by rw [eW]; exact Same.drewN (Same.refl _ _) _
  rw [← eW]
  clear eW
  obtain ⟨w2, w3, w4, HC1, HC2, HC3, HQ⟩ := HM.out W KW.out
  have HQ' : Hid _ := HQ
  have HC2' : Hid _ := HC2
  have HC3' : Hid _ := HC3
  have hcp1 := HC1 (c - i) vc
  clear HQ HC1 HC2 HC3
  go_wp2_with fail
  have hcp2 := HC2'.out (c - (i + m)) (c - j)
  go_region
  have hcl := HC3'.out
  go_wp2_with fail
  go_ret
  exact ⟨_, rfl, HQ'.out⟩

set_option maxRecDepth 100000 in
set_option maxHeartbeats 400000 in
theorem replace_even {w : World} {hb c vb vc i j : Nat} {L V : List Ex} (hR : Row w hb c L) (hV : Row w vb vc V) (hne : vb ≠ hb) (hij : i < j) (hj : j < L.length) (hm : i + V.length = j) (b1 : L.length ≤ 4096) (b2 : V.length ≤ 5000) :
    Calls Try.prog 39 #[.slice (some ⟨hb, 0, none⟩) L.length c, .int .i64 (i : Int), .int .i64 (j : Int), .slice (some ⟨vb, 0, none⟩) V.length vc] w fun r w' => ∃ v, r = .returned v ∧ Repl w hb (L.take i ++ V ++ L.drop j) v w' := by
  have hle := hR.le
  have HM : Hid (∀ W, Kept w W → ∃ w2 w3,
      (∀ dc sc, (Builtin.copy_ #[61, 61] 3 #[.slice (some ⟨hb, i * 2, none⟩) (L.length - i) dc, .slice (some ⟨vb, 0, none⟩) V.length sc]).run Try.prog W = .ok (goInt V.length) w2) ∧
      (∀ dc sc, (Builtin.copy_ #[61, 61] 3 #[.slice (some ⟨hb, j * 2, none⟩) (L.length - j) dc, .slice (some ⟨hb, j * 2, none⟩) (L.length - j) sc]).run Try.prog w2.drew = .ok (goInt (L.length - j : Nat)) w3) ∧
      Repl w hb (L.take i ++ V ++ L.drop j) (.slice (some ⟨hb, 0, none⟩) L.length c) w3) := fun W kW => by
    obtain ⟨w2, w3, h1, h2, ⟨R, q⟩, k⟩ := fits2 kW hR hV hne hj (Nat.le_of_eq hm)
    have l1 : (L.take i).length = i := by rw [List.length_take]; omega
    rw [show i + V.length + (L.length - j) = L.length by omega] at h1 h2
    rw [hm] at h2
    exact ⟨w2, w3, h1, h2, hb, c, by congr 1; simp only [List.length_append, l1, List.length_drop]; omega, q.prefix, .inl rfl, k⟩
  obtain ⟨n, en⟩ : ∃ n, n = L.length := ⟨_, rfl⟩
  obtain ⟨m, em⟩ : ∃ m, m = V.length := ⟨_, rfl⟩
  rw [← em] at HM hm b2 ⊢
  rw [← en] at HM hj hle b1 ⊢
  clear hR hV en em
  have hcl := clear_none
  have hne1 : ((i : Int) == (j : Int)) = false := by simp; omega
  have hne2 : ((j : Int) == (n : Int)) = false := by simp; omega
  have hic : i ≤ c := by omega
  have hin : i ≤ n := by omega
  have hij2 : (i : Int) ≤ (j : Int) := by omega
  have hjn2 : (j : Int) ≤ (n : Int) := by omega
  have hc0 : ¬ (c = i) := by omega
  have hc1 : ¬ (c = j) := by omega
  have hsm : (i : Int) + (m : Int) = (j : Int) := by omega
  have hsum : (j : Int) + ((n - j : Nat) : Int) = (n : Int) := by omega
  have hle2 : (i : Int) ≤ (n : Int) := by omega
  have hgt : ¬ ((c : Int) < (n : Int)) := by omega
  have hgt2 : (n : Int) ≤ (c : Int) := by omega
  clear hm
  have hnn : n - n = 0 := Nat.sub_self n
  by_cases hcn : c = n
  · subst hcn
    go_enter Try.func39, Try.ntmps39
    go_wp2_with fail
    go_quiet (fail)
    obtain ⟨W, eW⟩ : ∃ W, W = w.drewN nq := ⟨_, rfl⟩
    have KW : Hid (Kept w W) := by rw [eW]; exact Same.drewN (Same.refl _ _) _
    rw [← eW]
    clear eW
    obtain ⟨w2, w3, HC1, HC2, HQ⟩ := HM.out W KW.out
    have HQ' : Hid _ := HQ
    have HC2' : Hid _ := HC2
    have hcp1 := HC1 (c - i) vc
    clear HQ HC1 HC2
    go_wp2_with fail
    have hcp2 := HC2'.out (c - j) (c - j)
    go_region
    go_wp2_with fail
    go_ret
    exact ⟨_, rfl, HQ'.out⟩
  · go_enter Try.func39, Try.ntmps39
    go_wp2_with fail
    go_quiet (fail)
    obtain ⟨W, eW⟩ : ∃ W, W = w.drewN nq := ⟨_, rfl⟩
    have KW : Hid (Kept w W) := by rw [eW]; exact Same.drewN (Same.refl _ _) _
    rw [← eW]
    clear eW
    obtain ⟨w2, w3, HC1, HC2, HQ⟩ := HM.out W KW.out
    have HQ' : Hid _ := HQ
    have HC2' : Hid _ := HC2
    have hcp1 := HC1 (c - i) vc
    clear HQ HC1 HC2
    go_wp2_with fail
    have hcp2 := HC2'.out (c - j) (c - j)
    go_region
    go_wp2_with fail
    go_ret
    exact ⟨_, rfl, HQ'.out⟩

/-- slices.Replace, whatever the part. -/
theorem replace_any {w : World} {hb c vb vc i j : Nat} {L V : List Ex} (hR : Row w hb c L) (hV : Row w vb vc V) (hne : vb ≠ hb) (hij : i ≤ j) (hj : j ≤ L.length) (hm : V.length ≤ j - i + 1) (h1 : i = j → V.length = 1) (b1 : L.length ≤ 4096) :
    Calls Try.prog 39 #[.slice (some ⟨hb, 0, none⟩) L.length c, .int .i64 (i : Int), .int .i64 (j : Int), .slice (some ⟨vb, 0, none⟩) V.length vc] w fun r w' => ∃ v, r = .returned v ∧ Repl w hb (L.take i ++ V ++ L.drop j) v w' := by
  rcases Nat.lt_or_ge i j with h | h
  · rcases Nat.lt_or_ge j L.length with h2 | h2
    · rcases Nat.lt_or_ge c (i + V.length + (L.length - j)) with h3 | h3
      · exact replace_grow hR hV h h2 h3 b1 (by omega)
      · rcases Nat.lt_trichotomy (i + V.length) j with h4 | h4 | h4
        · exact replace_fits hR hV hne h h2 h4 b1 (by omega)
        · exact replace_even hR hV hne h h2 h4 b1 (by omega)
        · exact replace_more hR hV hne h h2 (by omega) h3 b1 (by omega)
    · obtain rfl : j = L.length := by omega
      rw [List.drop_length, List.append_nil]
      rcases Nat.lt_or_ge (i + V.length) L.length with h3 | h3
      · exact replace_less hR hV h h3 b1
      · exact replace_end hR hV h h3 b1 (by omega)
  · obtain rfl : i = j := by omega
    exact replace_same hR hV hne hj (h1 rfl) b1
end Go.Proofs.Ytpjkmficpedmcaa
