/- What is proved: the law StreamMemory returns true and turns nothing that was there. -/
import Derived.Test.YtpjkmficpedmcaaSMmC
import Derived.Deep.RegionHeld3
import Derived.Deep.DeepCutAuto
import Derived.Deep.RegionLaw
import Derived.Deep.Light
import Derived.Deep.CutBlock
namespace Go.Proofs.Ytpjkmficpedmcaa
open Go.RowKit

def rep8 (N k : Nat) : List Int := List.replicate N ((k : Int) + 1)
theorem rep8_eq (N k : Nat) : List.replicate N ((k : Int) + 1) = rep8 N k := rfl
theorem rep8_len (N k : Nat) : (rep8 N k).length = N := by simp [rep8]
theorem rep8_get (N k i : Nat) (h : i < N) : (rep8 N k)[i]? = some ((k : Int) + 1) := by simp [rep8, h]
theorem bytes_drop8 {w : World} {b o : Nat} {D : List Int} (h : BytesAt w (some ⟨b, o, none⟩) D) (m : Nat) : BytesAt w (some ⟨b, o + m, none⟩) (D.drop m) := fun i x hx => by
  rw [List.getElem?_drop] at hx
  obtain ⟨b', off, e, hb, hc⟩ := h (m + i) x hx
  cases e
  exact ⟨b, o + m, rfl, hb, by rw [Nat.add_assoc]; exact hc⟩
theorem sq1 {j : Nat} (h : j < 3) : decide ((j : Int) < 3) = true := decide_eq_true (by omega)
theorem sq2 {j : Nat} (h : j < 3) : (j : Int) < 3 := by omega
theorem sq3 {j : Nat} (h : ¬ j < 3) : decide ((j : Int) < 3) = false := decide_eq_false (by omega)
theorem sq4 {j : Nat} (h : ¬ j < 3) : ¬ (j : Int) < 3 := by omega
theorem sq5 {j : Nat} (h : j < 3) : (j : Int) + 1 ≤ 255 := by omega
theorem sq6 {j : Nat} (h : j < 3) : (50 : Int) + (j : Int) ≤ 255 := by omega
theorem sq7 {k M : Nat} (h : k < M) : decide ((k : Int) < (M : Int)) = true := decide_eq_true (by omega)
theorem sq8 {k M : Nat} (h : k < M) : (k : Int) < (M : Int) := by omega
theorem sq9 {k M : Nat} (h : ¬ k < M) : decide ((k : Int) < (M : Int)) = false := decide_eq_false (by omega)
theorem sqA {t : Nat} (h : t < 40) : decide ((t : Int) < 40) = true := decide_eq_true (by omega)
theorem sqB {t : Nat} (h : t < 40) : (t : Int) < 40 := by omega
theorem sqC {t : Nat} (h : ¬ t < 40) : decide ((t : Int) < 40) = false := decide_eq_false (by omega)
theorem sqD {t : Nat} (h : ¬ t < 40) : ¬ (t : Int) < 40 := by omega
set_option maxRecDepth 100000 in
theorem mem8_no (oa : Option Addr) (c : Nat) (n : Nat) (w : World) (h : n < 1 ∨ 64 < n) :
    Calls Try.prog 3 #[.slice oa n c] w fun e w' => e = .returned (.bool true) ∧ Kept w w' := by
  have hnot : ∀ (x : Bool) (w : World), (Op.unary .not (.bool x)).run Try.prog w = .ok (.bool (!x)) w := fun _ _ => rfl
  have HA : Hid _ := anchor_any8 w
  by_cases h0 : (n : Int) < 1
  · have d0 : decide ((n : Int) < 1) = true := decide_eq_true h0
    clear h
    go_enter Try.func3, Try.ntmps3
    go_wp2_with fail
    refine Calls.mono HA.out ?_
    rintro e w1 ⟨rfl, k1⟩
    go_wp2_with fail
    go_ret
    exact ⟨rfl, k1⟩
  · have d0 : decide ((n : Int) < 1) = false := decide_eq_false h0
    have h1 : 64 < (n : Int) := by omega
    have d1 : decide (64 < (n : Int)) = true := decide_eq_true h1
    clear h
    go_enter Try.func3, Try.ntmps3
    go_wp2_with fail
    refine Calls.mono HA.out ?_
    rintro e w1 ⟨rfl, k1⟩
    go_wp2_with fail
    go_ret
    exact ⟨rfl, k1⟩

set_option maxRecDepth 100000 in
set_option maxHeartbeats 12800000 in
theorem mem8_yes (b1 o1 c : Nat) (D : List Int) (w : World) (hl : BytesAt w (some ⟨b1, o1, none⟩) D) (h1 : 1 ≤ D.length) (h2 : D.length ≤ 64) (hc : D.length ≤ c) :
    Calls Try.prog 3 #[.slice (some ⟨b1, o1, none⟩) D.length c] w fun e w' => e = .returned (.bool true) ∧ Kept w w' := by
  have hnot : ∀ (x : Bool) (w : World), (Op.unary .not (.bool x)).run Try.prog w = .ok (.bool (!x)) w := fun _ _ => rfl
  have HA : Hid _ := anchor_any8 w
  have HL : Hid (∀ W, Kept w W → BytesAt W (some ⟨b1, o1, none⟩) D) := fun W k => hl.kept k (fun _ _ h => h)
  have HCL : Hid (∀ W, Kept w W → ∀ g, g = W.heap.size → ∀ ty, _) := fun W (k : Kept w W) g (hg : g = W.heap.size) ty => by
    have := clone9 (c := c) (HL.out W k) h1 (by omega) ty
    rw [← hg] at this
    exact this
  have HNW : Hid (∀ W g c2, BytesAt W (some ⟨g, 0, none⟩) D → _) := fun W g c2 (hb : BytesAt W (some ⟨g, 0, none⟩) D) => new_yes 16 8 (some ⟨g, 0, none⟩) none none c2 0 0 D [] [] W hb (BytesAt.nil _ _) (FaultsAt.nil _ _) (fun e => by cases e) (fun _ => ⟨rfl, rfl⟩) (by unfold chk okG; simp; omega)
  have HSM : Hid (∀ W g cc, BytesAt W (some ⟨g, 0, none⟩) D → Kept w W → Calls Try.prog 9 #[.slice (some ⟨g, 0, none⟩) D.length cc, .slice (some ⟨b1, o1, none⟩) D.length c] W fun e w' => e = .returned (.bool true) ∧ w' = W) := fun W g cc hb k => same_true W (some ⟨g, 0, none⟩) (some ⟨b1, o1, none⟩) cc c D hb (HL.out W k) (by omega)
  obtain ⟨n, en⟩ : ∃ n, n = D.length := ⟨_, rfl⟩
  rw [← en] at HCL HNW HSM h1 h2 hc ⊢
  have EN : Hid _ := en
  have d0 : decide ((n : Int) < 1) = false := decide_eq_false (by omega)
  have d1 : decide (64 < (n : Int)) = false := decide_eq_false (by omega)
  have d0' : ¬ (n : Int) < 1 := by omega
  have d1' : ¬ 64 < (n : Int) := by omega
  clear hl en
  go_enter Try.func3, Try.ntmps3
  go_wp2_with fail
  refine Calls.mono HA.out ?_
  rintro e w1 ⟨rfl, k1⟩
  have K1 : Hid _ := k1
  clear k1 HA
  go_wp2_with (at_builtin; apply Hid.out)
  refine wpList_app rfl (.tmp 48) (.tmp 49) 22 rfl (.slice (some ⟨_, 0, none⟩) 0 0) (.slice (some ⟨b1, o1, none⟩) n c) rfl rfl _ (HCL.out _ K1.out _ (by first | rfl | simp)) ?_
  rintro v2 w2 ⟨g2, c2, rfl, r2, z2, cap2, k2⟩
  have K2 : Hid (Kept w w2) := K1.out.trans' k2
  have HN : Hid _ := HNW.out w2 g2 c2 (BytesAt.at_own r2)
  clear r2 z2 cap2 k2 HNW K1
  go_wp2_with fail
  refine Calls.mono HN.out ?_
  rintro x w3 ⟨p, rfl, dv3, ft3, k3⟩
  have H3 : Hid _ := (⟨dv3, ft3, k3⟩ : _ ∧ _ ∧ _)
  have HSP : Hid _ := nw_any (tagD p) 8 (by decide) w3
  clear dv3 ft3 k3 HN
  go_wp2_with fail
  refine Calls.mono HSP.out ?_
  rintro x w4 ⟨sp, rfl, s4, k4, -⟩
  have H4 : Hid _ := (⟨s4, k4⟩ : _ ∧ _)
  have HC1 : Hid _ := create_any (tagN w3 2 (tagD p)) 3 w4 p sp
  clear s4 k4 HSP
  go_wp2_with fail
  refine Calls.mono HC1.out ?_
  rintro x w5 ⟨wb, rfl, t5, k5, -⟩
  obtain ⟨o5, HWK⟩ : ∃ o5, Hid (Wk o5 w2 w5 p sp wb D []) := ⟨_, Wk.start H3.out.1 H3.out.2.1 H3.out.2.2 H4.out.1 H4.out.2 t5 k5⟩
  have K5 : Hid (Kept w w5) := K2.out.trans' (Wk.kept HWK.out)
  clear t5 k5 HC1 H3 H4
  go_wp2_with (at_builtin; apply Hid.out)
  refine wpList_app rfl (.tmp 77) (.tmp 78) 22 rfl (.slice (some ⟨_, 0, none⟩) 0 0) (.slice (some ⟨b1, o1, none⟩) n c) rfl rfl _ (HCL.out _ K5.out _ (by first | rfl | simp)) ?_
  rintro v6 w6 ⟨g6, c6, rfl, r6, z6, cap6, k6⟩
  have st6 : Step (fun _ => False) o5 w5 (tagN w5 9 o5) w6 := ⟨k6, fun k hk => tagN_old hk⟩
  have tg6 : tagN w5 9 o5 g6 = 9 := tagN_new z6
  have hw6 := Wk.on HWK.out st6 (fun e => e) (fun e => e) (fun e => e) (fun e => e)
  have hsrc : Src8 (tagN w5 9 o5) 3 w6 (some ⟨g6, 0, none⟩) c6 D := ⟨BytesAt.at_own r6, fun k hk => by
    obtain ⟨_, off, e'⟩ := hk
    cases e'
    rw [tg6]
    unfold Wt
    decide, by rw [← EN.out]; exact cap6, (fun e => by cases e), fun ad e => by cases e; rfl⟩
  have HWR : Hid _ := Wk.write hw6 hsrc (by rw [← EN.out]; exact h2)
  rw [← EN.out] at HWR
  have R6 : Hid (Rw9 9 (tagN w5 9 o5) 0 w6 (.slice (some ⟨g6, 0, none⟩) n c6) D) := ⟨OwnB.lower r6 (Nat.zero_le _), fun k hk => by simp [Value.ownBlock] at hk; subst hk; exact tg6⟩
  generalize tagN w5 9 o5 = o6 at *
  clear r6 z6 cap6 k6 st6 tg6 hw6 hsrc HCL HWK K5
  go_wp2_with fail
  refine Calls.mono HWR.out ?_
  rintro x w7 ⟨rfl, o7, st7, wk7⟩
  have W7 : Hid (Wk o7 w2 w7 p sp wb D D) := wk7
  have R7 : Hid (Rw9 9 o7 0 w7 (.slice (some ⟨g6, 0, none⟩) n c6) D) := Rw9.on R6.out st7 (by unfold Wt; decide)
  have K7 : Hid (Kept w w7) := K2.out.trans' (Wk.kept wk7)
  clear st7 wk7 R6 HWR
  go_wp2_with fail
  refine Calls.mono (HSM.out _ _ _ (BytesAt.at_own R7.out.1) K7.out) ?_
  rintro e w7' ⟨rfl, e7⟩
  subst w7'
  clear HSM
  go_wp2_with fail
  go_loopw [92] (fun i wr => ∃ (j : Nat) (l' : List Int), j ≤ n ∧ i = .int .i64 j ∧ l'.length = n ∧ Rw 0 wr g6 n c6 l' ∧ Same (fun k => k = g6) w7 wr) (fun i _ => n - (intOf i).toNat)
  case atStart => exact ⟨0, D, Nat.zero_le _, rfl, EN.out.symm, R7.out.1, Same.refl _ _⟩
  case round =>
    obtain ⟨j, l', hj, rfl, hll, hr, hs⟩ := hrel
    by_cases hlt : j < n
    · have c1' : decide ((j : Int) < (n : Int)) = true := decide_eq_true (by omega)
      have hlt2 : (j : Int) < (n : Int) := by omega
      obtain ⟨x, hx⟩ : ∃ x, l'[j]? = some x := ⟨_, List.getElem?_eq_getElem (by rw [hll]; exact hlt)⟩
      obtain ⟨b', off', e', -, q0⟩ := BytesAt.at_own hr j x hx
      cases e'
      rw [Nat.zero_add] at q0
      obtain ⟨oo, f1, hbg⟩ := OwnB.set hr (i := j) (by rw [hll]; exact hlt) (bits BinOp.xor IntKind.u8 x 170)
      have O1 : Hid _ := oo
      have HLL : Hid (l'.length = n) := hll
      have S1 : Hid (Same (fun k => k = g6) w7 (wr.setCell ⟨g6, j, none⟩ (.int .u8 (bits BinOp.xor IntKind.u8 x 170)))) := hs.setCell _ (.inr rfl) _
      clear hr hs hx oo hll
      go_wp2_with fail
      go_roundw
      case rel => exact ⟨j + 1, _, hlt, by simp, (List.length_set ..).trans HLL.out, O1.out, S1.out⟩
      case measure => simp only [intOf]; omega
    · have c1' : decide ((j : Int) < (n : Int)) = false := decide_eq_false (by omega)
      have t6 : o7 g6 = 9 := R7.out.2 g6 (by simp [Value.ownBlock])
      have st : Step (fun n => n = 9) o7 w7 o7 wr := ⟨hs.mono fun k _ e => by rw [e]; exact t6, fun _ _ => rfl⟩
      have HCS : Hid _ := Wk.close (Wk.on W7.out st (by decide) (by decide) (by decide) (by decide)) ⟨by rw [← EN.out]; exact h1, by rw [← EN.out]; exact h2⟩
      rw [← EN.out] at HCS
      unfold fileV at HCS
      clear hr hs hll t6 st W7 R7 K7
      go_wp2_with fail
      clear hlt hj c1'
      refine Calls.mono HCS.out ?_
      rintro x w8 ⟨a8, c8, L, zs, o8, m8, rfl, st8, oi8, tg8, fk8, hLn, hk8⟩
      clear HCS st8
      obtain ⟨ln, eln⟩ : ∃ ln, ln = L.length := ⟨_, rfl⟩
      have ELN : Hid _ := eln
      have hl1 : 1 ≤ ln := by rw [eln, hLn]; unfold nblk; omega
      have hl4 : ln ≤ 4 := by rw [eln, hLn]; unfold nblk; omega
      obtain ⟨g8, rfl⟩ : ∃ g8, a8 = some ⟨g8, 0, none⟩ := by
        rcases oi8.2 with ⟨e2, -⟩ | ⟨g', cap', cur, e2, -⟩
        · simp only [Value.slice.injEq] at e2
          omega
        · simp only [Value.slice.injEq] at e2
          exact ⟨g', e2.1⟩
      obtain ⟨bx8, sx8⟩ := Bx8.new o8 w8 (.cells #[.slice (some ⟨g8, 0, none⟩) ln c8, .int .i64 (n : Int)] 39)
      obtain ⟨W9, eW9⟩ : ∃ W9, W9 = w8.alloc (.cells #[.slice (some ⟨g8, 0, none⟩) ln c8, .int .i64 (n : Int)] 39) := ⟨_, rfl⟩
      rw [← eW9] at bx8 sx8
      have FK9 : Hid (Fk (tagN w8 0 o8) w2 W9 p D L zs m8) := fk8.on sx8 (fun e => e) (fk8.dv.on sx8 (fun e => e) (fun e => e)) (Eqm.refl _) (by omega)
      have OI9 : Hid (OwnI 0 W9 (.slice (some ⟨g8, 0, none⟩) ln c8) L) := by rw [eln]; exact own_kept oi8 sx8.same (fun _ _ h => h)
      have TG9 : Hid (tagN w8 0 o8 g8 = 3) := (sx8.tag g8 (own_lt oi8 (by simp [Value.ownBlock])).1).trans (tg8 g8 (by simp [Value.ownBlock]))
      have BX9 : Hid (Bx8 (tagN w8 0 o8) W9 w8.heap.size (.cells #[.slice (some ⟨g8, 0, none⟩) ln c8, .int .i64 (n : Int)] 39)) := bx8
      have HLN : Hid (L.length = nblk D.length 16 ∧ m8.k ≤ 1000) := ⟨by rw [← EN.out]; exact hLn, hk8⟩
      rw [← eln]
      clear oi8 tg8 fk8 hLn hk8 bx8 sx8 eln
      go_wp2_with fail
      rw [← eW9]
      clear eW9
      generalize tagN w8 0 o8 = o9 at *
      generalize w8.heap.size = h8 at *
      have y0 : W9.cell? ⟨h8, 0, none⟩ = some (.slice (some ⟨g8, 0, none⟩) ln c8) := (cell_of BX9.out.1 0).trans rfl
      have y1 : W9.cell? ⟨h8, 1, none⟩ = some (.int .i64 (n : Int)) := (cell_of BX9.out.1 1).trans rfl
      have l8 := lt_of_heap BX9.out.1
      have hl1' : ¬ (ln : Int) < 1 := by omega
      go_wp2_with fail
      have HCI : Hid (∀ W, Kept W9 W → ∀ b ty, _) := fun W (k : Kept W9 W) b ty => by
        obtain ⟨a, cap', e, hn, -⟩ := OwnI.nums (own_kept OI9.out k (fun _ _ h => h))
        simp only [Value.slice.injEq] at e
        obtain ⟨rfl, -, -⟩ := e
        have := cloneI (c := c8) b hn (by rw [← ELN.out]; exact hl1) (by rw [← ELN.out]; omega) ty
        rw [← ELN.out] at this
        exact this
      have HT : Hid (∀ W, Kept W9 W → Kept W9 W ∧ W.cell? ⟨h8, 0, none⟩ = some (.slice (some ⟨g8, 0, none⟩) ln c8) ∧ W.cell? ⟨h8, 1, none⟩ = some (.int .i64 (n : Int))) := fun W k => ⟨k, (k.cell (p := ⟨h8, 0, none⟩) l8 (fun e => e)).trans y0, (k.cell (p := ⟨h8, 1, none⟩) l8 (fun e => e)).trans y1⟩
      go_cut [12] (fun s12 wx => ∃ yb g cy, s12 = .pointer (some ⟨yb, 0, none⟩) ∧ wx.heap[yb]? = some (.cells #[.slice (some ⟨g, 0, none⟩) ln cy, .int .i64 (n : Int)] 39 (0, 0)) ∧ W9.heap.size ≤ yb ∧ NumsAt wx (some ⟨g, 0, none⟩) L ∧ Kept W9 wx)
      case first =>
        as_aux_lemma =>
          have l8' := l8
          have SS : Hid (∀ W, Kept W9 W → ((Kept W9 W ∧ h8 < W.heap.size) ∧ W.cell? ⟨h8, 0, none⟩ = some (.slice (some ⟨g8, 0, none⟩) ln c8)) ∧ W.cell? ⟨h8, 1, none⟩ = some (.int .i64 (n : Int))) := fun W k => ⟨⟨⟨k, Nat.lt_of_lt_of_le l8' k.size⟩, (HT.out W k).2.1⟩, (HT.out W k).2.2⟩
          clear l8' y0 y1 HT
          refine wp_region_held_drew (S := fun W => ((Kept W9 W ∧ h8 < W.heap.size) ∧ W.cell? ⟨h8, 0, none⟩ = some (.slice (some ⟨g8, 0, none⟩) ln c8)) ∧ W.cell? ⟨h8, 1, none⟩ = some (.int .i64 (n : Int))) (by kernel_rfl) (SS.out _ ((Same.refl _ W9).drew)) (fun hHeld => ?_)
          (try simp only [Act.put, List.getElem_toArray, List.getElem_cons_succ, List.getElem_cons_zero, List.setIfInBounds_toArray, List.set_cons_zero, List.set_cons_succ])
          refine wpAnyH_take (i := 1) (v := (.pointer (some ⟨h8, 0, none⟩))) rfl (by kernel_rfl) (by kernel_rfl) (by kernel_rfl) (fun _ _ _ h => h) (Or.inl ⟨by rfl, fun w hSw => by (dsimp only at hSw; go_simp)⟩) (by assumption) ?_
          (try simp only [Act.put, List.getElem_toArray, List.getElem_cons_succ, List.getElem_cons_zero, List.setIfInBounds_toArray, List.set_cons_zero, List.set_cons_succ])
          refine wpAnyH_take (i := 2) (v := (.slice (some ⟨g8, 0, none⟩) ln c8)) rfl (by kernel_rfl) (by kernel_rfl) (by kernel_rfl) (fun _ _ _ h => h) (Or.inl ⟨by rfl, fun w hSw => by (dsimp only at hSw; go_simp)⟩) (by assumption) ?_
          (try simp only [Act.put, List.getElem_toArray, List.getElem_cons_succ, List.getElem_cons_zero, List.setIfInBounds_toArray, List.set_cons_zero, List.set_cons_succ])
          refine wpAnyH_take (i := 4) (v := (.pointer (some ⟨h8, 1, none⟩))) rfl (by kernel_rfl) (by kernel_rfl) (by kernel_rfl) (fun _ _ _ h => h) (Or.inl ⟨by rfl, fun w hSw => by (dsimp only at hSw; go_simp)⟩) (by assumption) ?_
          (try simp only [Act.put, List.getElem_toArray, List.getElem_cons_succ, List.getElem_cons_zero, List.setIfInBounds_toArray, List.set_cons_zero, List.set_cons_succ])
          refine wpAnyH_take (i := 5) (v := (.int .i64 (n : Int))) rfl (by kernel_rfl) (by kernel_rfl) (by kernel_rfl) (fun _ _ _ h => h) (Or.inl ⟨by rfl, fun w hSw => by (dsimp only at hSw; go_simp)⟩) (by assumption) ?_
          (try simp only [Act.put, List.getElem_toArray, List.getElem_cons_succ, List.getElem_cons_zero, List.setIfInBounds_toArray, List.set_cons_zero, List.set_cons_succ])
          refine wpAnyH_ready (rs := [0, 7]) (by kernel_rfl) (by simp) (AllReadyH.cons rfl (fun K hK => ?_) (AllReadyH.cons rfl (fun K hK => ?_) AllReadyH.nil))
          · go_simp
            refine hK.out _ _ (SS.out _ (by (repeat (first | exact Same.refl _ _ | apply Same.alloc | apply Same.drew | apply Same.drewN)); done)) (fun hHeld1 => ?_)
            clear hK K hHeld
            (try simp only [Act.put, List.getElem_toArray, List.getElem_cons_succ, List.getElem_cons_zero, List.setIfInBounds_toArray, List.set_cons_zero, List.set_cons_succ])
            refine wpAnyH_ready (rs := [3, 7]) (by kernel_rfl) (by simp) (AllReadyH.cons rfl (fun K hK => ?_) (AllReadyH.cons rfl (fun K hK => ?_) AllReadyH.nil))
            · refine step_app rfl (.tmp 115) (.tmp 117) 37 rfl (.slice (some ⟨_, 0, none⟩) 0 0) (.slice (some ⟨g8, 0, none⟩) ln c8) rfl rfl _ (HCI.out _ (by (repeat (first | exact Same.refl _ _ | apply Same.alloc | apply Same.drew | apply Same.drewN)); done) _) ?_
              rintro v10 w10 ⟨g10, c10, rfl, nu10, z10, k10⟩
              have HK10 : Hid (Kept W9 w10) := Same.trans' (by (repeat (first | exact Same.refl _ _ | apply Same.alloc | apply Same.drew | apply Same.drewN)); done) k10
              have NU : Hid (NumsAt w10 (some ⟨g10, 0, none⟩) L) := nu10
              clear nu10 z10 k10
              refine hK.out _ _ (SS.out _ HK10.out) (fun hHeld2 => ?_)
              clear hK K hHeld1
              (try simp only [Act.put, List.getElem_toArray, List.getElem_cons_succ, List.getElem_cons_zero, List.setIfInBounds_toArray, List.set_cons_zero, List.set_cons_succ])
              refine wpAnyH_take (i := 6) (v := (.agg #[.slice (some ⟨g10, 0, none⟩) ln c10, .int .i64 (n : Int)])) rfl (by kernel_rfl) (by kernel_rfl) (by kernel_rfl) (fun _ _ _ h => h) (Or.inl ⟨by rfl, fun w hSw => by (dsimp only at hSw; go_simp)⟩) (by assumption) ?_
              (try simp only [Act.put, List.getElem_toArray, List.getElem_cons_succ, List.getElem_cons_zero, List.setIfInBounds_toArray, List.set_cons_zero, List.set_cons_succ])
              refine wpAnyH_ready (rs := [7]) (by kernel_rfl) (by simp) (AllReadyH.cons rfl (fun K hK => ?_) AllReadyH.nil)
              go_simp
              refine hK.out _ _ (SS.out _ (HK10.out.alloc _)) (fun hHeld3 => ?_)
              clear hK K hHeld2
              (try simp only [Act.put, List.getElem_toArray, List.getElem_cons_succ, List.getElem_cons_zero, List.setIfInBounds_toArray, List.set_cons_zero, List.set_cons_succ])
              refine wpAnyH_ready (rs := [8]) (by kernel_rfl) (by simp) (AllReadyH.cons rfl (fun K hK => ?_) AllReadyH.nil)
              go_simp
              refine hK.out _ _ (SS.out _ (HK10.out.alloc _)) (fun hHeld4 => ?_)
              clear hK K hHeld3
              (try simp only [Act.put, List.getElem_toArray, List.getElem_cons_succ, List.getElem_cons_zero, List.setIfInBounds_toArray, List.set_cons_zero, List.set_cons_succ])
              refine wpAnyH_done (by kernel_rfl) ?_ _
              clear hHeld4
              go_wp2_with fail
              go_meet
              exact ⟨_, g10, c10, rfl, heap_new w10 _, HK10.out.size, NumsAt.kept NU.out ((Same.refl (fun _ => False) w10).alloc _) (fun _ _ h => h), HK10.out.trans' ((Same.refl _ w10).alloc _)⟩
            · go_simp
              refine hK.out _ _ (SS.out _ (by (repeat (first | exact Same.refl _ _ | apply Same.alloc | apply Same.drew | apply Same.drewN)); done)) (fun hHeld2 => ?_)
              clear hK K hHeld1
              (try simp only [Act.put, List.getElem_toArray, List.getElem_cons_succ, List.getElem_cons_zero, List.setIfInBounds_toArray, List.set_cons_zero, List.set_cons_succ])
              have hy := heap_new (W9.drew.alloc (.cells #[] 3)) (.cells #[.slice none 0 0, .int .i64 0] 39)
              have zy : (W9.drew.alloc (.cells #[] 3)).heap.size = W9.heap.size + 1 := by rw [World.size_alloc]; rfl
              rw [zy] at hy
              refine wpAnyH_ready (rs := [3]) (by kernel_rfl) (by simp) (AllReadyH.cons rfl (fun K hK => ?_) AllReadyH.nil)
              refine step_app rfl (.tmp 115) (.tmp 117) 37 rfl (.slice (some ⟨_, 0, none⟩) 0 0) (.slice (some ⟨g8, 0, none⟩) ln c8) rfl rfl _ (HCI.out _ (by (repeat (first | exact Same.refl _ _ | apply Same.alloc | apply Same.drew | apply Same.drewN)); done) _) ?_
              rintro v10 w10 ⟨g10, c10, rfl, nu10, z10, k10⟩
              have HK10 : Hid (Kept W9 w10) := Same.trans' (by (repeat (first | exact Same.refl _ _ | apply Same.alloc | apply Same.drew | apply Same.drewN)); done) k10
              have NU : Hid (NumsAt w10 (some ⟨g10, 0, none⟩) L) := nu10
              have hyl := lt_of_heap hy
              have HY : Hid (w10.heap[W9.heap.size + 1]? = some (.cells #[.slice none 0 0, .int .i64 0] 39 (0, 0))) := (k10.block _ hyl (fun e => e)).trans hy
              have HNG : Hid (W9.heap.size + 1 < g10) := Nat.lt_of_lt_of_le hyl z10
              have f0 := frozen_of HY.out 0
              have f1 := frozen_of HY.out 1
              have q0 := cell_of HY.out 0
              have q1 := cell_of HY.out 1
              have ly := lt_of_heap HY.out
              simp at q0 q1
              have SY : Hid (Same (fun k => k = W9.heap.size + 1) w10 ((w10.setCell ⟨W9.heap.size + 1, 0, none⟩ (.slice (some ⟨g10, 0, none⟩) ln c10)).setCell ⟨W9.heap.size + 1, 1, none⟩ (.int .i64 (n : Int)))) := Same.setCell (S := fun k => k = W9.heap.size + 1) (Same.setCell (S := fun k => k = W9.heap.size + 1) (Same.refl _ w10) _ (.inr rfl) _) _ (.inr rfl) _
              have KY : Hid (Kept W9 ((w10.setCell ⟨W9.heap.size + 1, 0, none⟩ (.slice (some ⟨g10, 0, none⟩) ln c10)).setCell ⟨W9.heap.size + 1, 1, none⟩ (.int .i64 (n : Int)))) := Same.trans HK10.out SY.out (fun i hi e => by omega)
              clear nu10 z10 k10 hy hyl zy
              refine hK.out _ _ (SS.out _ HK10.out) (fun hHeld3 => ?_)
              clear hK K hHeld2
              (try simp only [Act.put, List.getElem_toArray, List.getElem_cons_succ, List.getElem_cons_zero, List.setIfInBounds_toArray, List.set_cons_zero, List.set_cons_succ])
              refine wpAnyH_take (i := 6) (v := (.agg #[.slice (some ⟨g10, 0, none⟩) ln c10, .int .i64 (n : Int)])) rfl (by kernel_rfl) (by kernel_rfl) (by kernel_rfl) (fun _ _ _ h => h) (Or.inl ⟨by rfl, fun w hSw => by (dsimp only at hSw; go_simp)⟩) (by assumption) ?_
              (try simp only [Act.put, List.getElem_toArray, List.getElem_cons_succ, List.getElem_cons_zero, List.setIfInBounds_toArray, List.set_cons_zero, List.set_cons_succ])
              refine wpAnyH_ready (rs := [8]) (by kernel_rfl) (by simp) (AllReadyH.cons rfl (fun K hK => ?_) AllReadyH.nil)
              go_simp
              refine hK.out _ _ (SS.out _ KY.out) (fun hHeld4 => ?_)
              clear hK K hHeld3 hHeld4
              (try simp only [Act.put, List.getElem_toArray, List.getElem_cons_succ, List.getElem_cons_zero, List.setIfInBounds_toArray, List.set_cons_zero, List.set_cons_succ])
              refine wpAnyH_done (by kernel_rfl) ?_ _
              go_wp2_with fail
              go_meet
              exact ⟨W9.heap.size + 1, g10, c10, rfl, setCell_at (setCell_at HY.out 0 _) 1 _, by omega, NumsAt.kept NU.out SY.out (fun k hk e => by obtain ⟨_, off, e'⟩ := hk; cases e'; have := HNG.out; omega), KY.out⟩
          · go_simp
            refine hK.out _ _ (SS.out _ (by (repeat (first | exact Same.refl _ _ | apply Same.alloc | apply Same.drew | apply Same.drewN)); done)) (fun hHeld1 => ?_)
            clear hK K hHeld
            (try simp only [Act.put, List.getElem_toArray, List.getElem_cons_succ, List.getElem_cons_zero, List.setIfInBounds_toArray, List.set_cons_zero, List.set_cons_succ])
            refine wpAnyH_ready (rs := [0]) (by kernel_rfl) (by simp) (AllReadyH.cons rfl (fun K hK => ?_) AllReadyH.nil)
            · go_simp
              refine hK.out _ _ (SS.out _ (by (repeat (first | exact Same.refl _ _ | apply Same.alloc | apply Same.drew | apply Same.drewN)); done)) (fun hHeld2 => ?_)
              clear hK K hHeld1
              (try simp only [Act.put, List.getElem_toArray, List.getElem_cons_succ, List.getElem_cons_zero, List.setIfInBounds_toArray, List.set_cons_zero, List.set_cons_succ])
              have hy0 := heap_new W9.drew (.cells #[.slice none 0 0, .int .i64 0] 39)
              have hy := (((Same.refl (fun _ => False) (W9.drew.alloc (.cells #[.slice none 0 0, .int .i64 0] 39))).alloc (.cells #[] 3)).block _ (lt_of_heap hy0) (fun e => e)).trans hy0
              have zy : W9.drew.heap.size = W9.heap.size := rfl
              rw [zy] at hy
              clear hy0
              refine wpAnyH_ready (rs := [3]) (by kernel_rfl) (by simp) (AllReadyH.cons rfl (fun K hK => ?_) AllReadyH.nil)
              refine step_app rfl (.tmp 115) (.tmp 117) 37 rfl (.slice (some ⟨_, 0, none⟩) 0 0) (.slice (some ⟨g8, 0, none⟩) ln c8) rfl rfl _ (HCI.out _ (by (repeat (first | exact Same.refl _ _ | apply Same.alloc | apply Same.drew | apply Same.drewN)); done) _) ?_
              rintro v10 w10 ⟨g10, c10, rfl, nu10, z10, k10⟩
              have HK10 : Hid (Kept W9 w10) := Same.trans' (by (repeat (first | exact Same.refl _ _ | apply Same.alloc | apply Same.drew | apply Same.drewN)); done) k10
              have NU : Hid (NumsAt w10 (some ⟨g10, 0, none⟩) L) := nu10
              have hyl := lt_of_heap hy
              have HY : Hid (w10.heap[W9.heap.size]? = some (.cells #[.slice none 0 0, .int .i64 0] 39 (0, 0))) := (k10.block _ hyl (fun e => e)).trans hy
              have HNG : Hid (W9.heap.size < g10) := Nat.lt_of_lt_of_le hyl z10
              have f0 := frozen_of HY.out 0
              have f1 := frozen_of HY.out 1
              have q0 := cell_of HY.out 0
              have q1 := cell_of HY.out 1
              have ly := lt_of_heap HY.out
              simp at q0 q1
              have SY : Hid (Same (fun k => k = W9.heap.size) w10 ((w10.setCell ⟨W9.heap.size, 0, none⟩ (.slice (some ⟨g10, 0, none⟩) ln c10)).setCell ⟨W9.heap.size, 1, none⟩ (.int .i64 (n : Int)))) := Same.setCell (S := fun k => k = W9.heap.size) (Same.setCell (S := fun k => k = W9.heap.size) (Same.refl _ w10) _ (.inr rfl) _) _ (.inr rfl) _
              have KY : Hid (Kept W9 ((w10.setCell ⟨W9.heap.size, 0, none⟩ (.slice (some ⟨g10, 0, none⟩) ln c10)).setCell ⟨W9.heap.size, 1, none⟩ (.int .i64 (n : Int)))) := Same.trans HK10.out SY.out (fun i hi e => by omega)
              clear nu10 z10 k10 hy hyl zy
              refine hK.out _ _ (SS.out _ HK10.out) (fun hHeld3 => ?_)
              clear hK K hHeld2
              (try simp only [Act.put, List.getElem_toArray, List.getElem_cons_succ, List.getElem_cons_zero, List.setIfInBounds_toArray, List.set_cons_zero, List.set_cons_succ])
              refine wpAnyH_take (i := 6) (v := (.agg #[.slice (some ⟨g10, 0, none⟩) ln c10, .int .i64 (n : Int)])) rfl (by kernel_rfl) (by kernel_rfl) (by kernel_rfl) (fun _ _ _ h => h) (Or.inl ⟨by rfl, fun w hSw => by (dsimp only at hSw; go_simp)⟩) (by assumption) ?_
              (try simp only [Act.put, List.getElem_toArray, List.getElem_cons_succ, List.getElem_cons_zero, List.setIfInBounds_toArray, List.set_cons_zero, List.set_cons_succ])
              refine wpAnyH_ready (rs := [8]) (by kernel_rfl) (by simp) (AllReadyH.cons rfl (fun K hK => ?_) AllReadyH.nil)
              go_simp
              refine hK.out _ _ (SS.out _ KY.out) (fun hHeld4 => ?_)
              clear hK K hHeld3 hHeld4
              (try simp only [Act.put, List.getElem_toArray, List.getElem_cons_succ, List.getElem_cons_zero, List.setIfInBounds_toArray, List.set_cons_zero, List.set_cons_succ])
              refine wpAnyH_done (by kernel_rfl) ?_ _
              go_wp2_with fail
              go_meet
              exact ⟨W9.heap.size, g10, c10, rfl, setCell_at (setCell_at HY.out 0 _) 1 _, by omega, NumsAt.kept NU.out SY.out (fun k hk e => by obtain ⟨_, off, e'⟩ := hk; cases e'; have := HNG.out; omega), KY.out⟩
      case rest =>
        obtain ⟨yb, gy, cy, rfl, hyb, hys, hny, kc⟩ := hcut
        have stc : Step (fun _ => False) o9 W9 (tagN W9 0 o9) wc := ⟨kc, fun k hk => tagN_old hk⟩
        have FKc : Hid (Fk (tagN W9 0 o9) w2 wc p D L zs m8) := FK9.out.on stc (fun e => e) (FK9.out.dv.on stc (fun e => e) (fun e => e)) (Eqm.refl _) (by have := HLN.out.2; omega)
        have OIc : Hid (OwnI 0 wc (.slice (some ⟨g8, 0, none⟩) ln c8) L) := own_kept OI9.out kc (fun _ _ h => h)
        have TGc : Hid (tagN W9 0 o9 g8 = 3) := (stc.tag g8 (own_lt OI9.out (by simp [Value.ownBlock])).1).trans TG9.out
        have BXc : Hid (Bx8 (tagN W9 0 o9) wc h8 (.cells #[.slice (some ⟨g8, 0, none⟩) ln c8, .int .i64 (n : Int)] 39)) := BX9.out.on stc (fun e => e)
        have BYc : Hid (Bx8 (tagN W9 0 o9) wc yb (.cells #[.slice (some ⟨gy, 0, none⟩) ln cy, .int .i64 (n : Int)] 39)) := ⟨hyb, tagN_new hys⟩
        have NYc : Hid (NumsAt wc (some ⟨gy, 0, none⟩) L) := hny
        have hD64 : D.length ≤ 64 := by rw [← EN.out]; exact h2
        have HO1 : Hid _ := FKc.out.open_ 10 hD64 (a := some ⟨g8, 0, none⟩) (c := c8) (by
          obtain ⟨a, cap', e, hn, -⟩ := OwnI.nums OIc.out
          simp only [Value.slice.injEq] at e
          obtain ⟨rfl, -, -⟩ := e
          exact hn) (fun e => by cases e) HLN.out.1
        have HO2 : Hid (∀ o W, Fk o w2 W p D L zs m8 → NumsAt W (some ⟨gy, 0, none⟩) L → _) := fun o W (h : Fk o w2 W p D L zs m8) (hn : NumsAt W (some ⟨gy, 0, none⟩) L) => h.open_ 20 hD64 (a := some ⟨gy, 0, none⟩) (c := cy) hn (fun e => by cases e) HLN.out.1
        have HO3 : Hid (∀ o W, Fk o w2 W p D L zs m8 → _) := fun o W (h : Fk o w2 W p D L zs m8) => h.input 30
        rw [← EN.out, ← ELN.out] at HO1 HO2
        unfold fileV at HO1 HO2
        generalize tagN W9 0 o9 = oc at *
        clear hyb hys hny kc stc FK9 OI9 TG9 BX9 HT HCI y0 y1 l8 hD64
        have y0 : wc.cell? ⟨h8, 0, none⟩ = some (.slice (some ⟨g8, 0, none⟩) ln c8) := (cell_of BXc.out.1 0).trans rfl
        have y1 : wc.cell? ⟨h8, 1, none⟩ = some (.int .i64 (n : Int)) := (cell_of BXc.out.1 1).trans rfl
        have l8 := lt_of_heap BXc.out.1
        go_wp2_with fail
        refine Calls.mono HO1.out ?_
        rintro x Wd ⟨rb, od, rfl, -, st1, fr1, fk1⟩
        have HO2' : Hid _ := HO2.out od Wd fk1 (NumsAt.kept NYc.out st1.same (fun _ _ h => h))
        have FR1 : Hid (Fr od 10 Wd p rb L (D ++ zs) D.length 0 m8) := by rw [← show n = D.length from EN.out]; exact fr1
        have X1 : Hid (OwnI 0 Wd (.slice (some ⟨g8, 0, none⟩) ln c8) L ∧ od g8 = 3 ∧ Bx8 od Wd h8 (.cells #[.slice (some ⟨g8, 0, none⟩) ln c8, .int .i64 (n : Int)] 39) ∧ Bx8 od Wd yb (.cells #[.slice (some ⟨gy, 0, none⟩) ln cy, .int .i64 (n : Int)] 39)) := ⟨own_kept OIc.out st1.same (fun _ _ h => h), (st1.tag g8 (own_lt OIc.out (by simp [Value.ownBlock])).1).trans TGc.out, BXc.out.on st1 (fun e => e), BYc.out.on st1 (fun e => e)⟩
        clear HO1 HO2 st1 fr1 fk1 NYc OIc TGc BXc BYc FKc y0 y1 l8
        have y0 : Wd.cell? ⟨yb, 0, none⟩ = some (.slice (some ⟨gy, 0, none⟩) ln cy) := (cell_of X1.out.2.2.2.1 0).trans rfl
        have y1 : Wd.cell? ⟨yb, 1, none⟩ = some (.int .i64 (n : Int)) := (cell_of X1.out.2.2.2.1 1).trans rfl
        have l8 := lt_of_heap X1.out.2.2.2.1
        go_wp2_with fail
        refine Calls.mono HO2'.out ?_
        rintro x We ⟨qb, oe, rfl, -, st2, fr2, fk2⟩
        have HO3' : Hid _ := HO3.out oe We fk2
        have FR2 : Hid (Fr oe 10 We p rb L (D ++ zs) D.length 0 m8 ∧ Fr oe 20 We p qb L (D ++ zs) D.length 0 m8) := ⟨FR1.out.on st2 (fun e => e) (fun e => e) (Eqm.refl _), by rw [← show n = D.length from EN.out]; exact fr2⟩
        have X2 : Hid (OwnI 0 We (.slice (some ⟨g8, 0, none⟩) ln c8) L ∧ oe g8 = 3 ∧ Bx8 oe We h8 (.cells #[.slice (some ⟨g8, 0, none⟩) ln c8, .int .i64 (n : Int)] 39) ∧ Bx8 oe We yb (.cells #[.slice (some ⟨gy, 0, none⟩) ln cy, .int .i64 (n : Int)] 39)) := ⟨own_kept X1.out.1 st2.same (fun _ _ h => h), (st2.tag g8 (own_lt X1.out.1 (by simp [Value.ownBlock])).1).trans X1.out.2.1, X1.out.2.2.1.on st2 (fun e => e), X1.out.2.2.2.on st2 (fun e => e)⟩
        clear HO2' HO3 st2 fr2 fk2 X1 FR1 y0 y1 l8
        go_wp2_with fail
        refine Calls.mono HO3'.out ?_
        rintro x Wf ⟨ib, of, rfl, -, st3, ir3, fk3⟩
        have SY : Hid (Sy of w2 Wf p D L zs rb qb ib 1000 0 0 0) := ⟨m8, fk3, HLN.out.2, FR2.out.1.on st3 (fun e => e) (fun e => e) (Eqm.refl _), FR2.out.2.on st3 (fun e => e) (fun e => e) (Eqm.refl _), ir3⟩
        have X3 : Hid (OwnI 0 Wf (.slice (some ⟨g8, 0, none⟩) ln c8) L ∧ of g8 = 3 ∧ Bx8 of Wf h8 (.cells #[.slice (some ⟨g8, 0, none⟩) ln c8, .int .i64 (n : Int)] 39) ∧ Bx8 of Wf yb (.cells #[.slice (some ⟨gy, 0, none⟩) ln cy, .int .i64 (n : Int)] 39)) := ⟨own_kept X2.out.1 st3.same (fun _ _ h => h), (st3.tag g8 (own_lt X2.out.1 (by simp [Value.ownBlock])).1).trans X2.out.2.1, X2.out.2.2.1.on st3 (fun e => e), X2.out.2.2.2.on st3 (fun e => e)⟩
        clear HO3' st3 ir3 fk3 X2 FR2
        have y0 : Wf.cell? ⟨h8, 0, none⟩ = some (.slice (some ⟨g8, 0, none⟩) ln c8) := (cell_of X3.out.2.2.1.1 0).trans rfl
        have l8 := lt_of_heap X3.out.2.2.1.1
        have hg8 : g8 ≠ h8 := fun e => by have q1 := X3.out.2.1; have q2 := X3.out.2.2.1.2; rw [e] at q1; omega
        go_wp2_with fail
        go_loopw [157] (fun i wr => ∃ (j : Nat) (l' : List Int), j ≤ ln ∧ i = .int .i64 j ∧ l'.length = ln ∧ OwnI 0 wr (.slice (some ⟨g8, 0, none⟩) ln c8) l' ∧ Same (fun k => k = g8) Wf wr) (fun i _ => ln - (intOf i).toNat)
        case atStart => exact ⟨0, L, Nat.zero_le _, rfl, ELN.out.symm, X3.out.1, Same.refl _ _⟩
        case round =>
          obtain ⟨j, l', hj, rfl, hll, hr, hs⟩ := hrel
          rename World => Wg
          clear y0 l8
          by_cases hlt : j < ln
          · have c1' : decide ((j : Int) < (ln : Int)) = true := decide_eq_true (by omega)
            have hlt2 : (j : Int) < (ln : Int) := by omega
            have y0 : Wg.cell? ⟨h8, 0, none⟩ = some (.slice (some ⟨g8, 0, none⟩) ln c8) := (hs.cell (p := ⟨h8, 0, none⟩) (lt_of_heap X3.out.2.2.1.1) (fun e => hg8 e.symm)).trans ((cell_of X3.out.2.2.1.1 0).trans rfl)
            have l8 : h8 < Wg.heap.size := Nat.lt_of_lt_of_le (lt_of_heap X3.out.2.2.1.1) hs.size
            obtain ⟨oo, f1, yy, q0⟩ := OwnI.set hr (i := j) (by rw [hll]; exact hlt) 999
            have O1 : Hid _ := oo
            have HLL : Hid (l'.length = ln) := hll
            have S1 : Hid (Same (fun k => k = g8) Wf (Wg.setCell ⟨g8, j, none⟩ (.int .i64 999))) := hs.setCell _ (.inr rfl) _
            clear hr hs oo hll
            go_wp2_with fail
            go_roundw
            case rel => exact ⟨j + 1, _, hlt, by simp, (List.length_set ..).trans HLL.out, O1.out, S1.out⟩
            case measure => simp only [intOf]; omega
          · have c1' : decide ((j : Int) < (ln : Int)) = false := decide_eq_false (by omega)
            have hlt2 : ¬ (j : Int) < (ln : Int) := by omega
            have stg : Step (fun n => n = 3) of Wf of Wg := ⟨hs.mono fun k _ e => by rw [e]; exact X3.out.2.1, fun _ _ => rfl⟩
            have SG : Hid (Sy of w2 Wg p D L zs rb qb ib 1000 0 0 0) := SY.out.on stg (by decide) (by decide) (by decide) (by decide) (by decide)
            have BG : Hid (Bx8 of Wg yb (.cells #[.slice (some ⟨gy, 0, none⟩) ln cy, .int .i64 (n : Int)] 39)) := X3.out.2.2.2.on stg (by decide)
            clear hr hs hll stg SY X3 hlt hj hg8
            go_upto_region 34 with fail
            have hD64 : D.length ≤ 64 := by rw [← EN.out]; exact h2
            obtain ⟨N, eN⟩ : ∃ N, N = min 8 n := ⟨_, rfl⟩
            have hN1 : 1 ≤ N := by omega
            have hN8 : N ≤ 8 := by omega
            have hNn : N ≤ n := by omega
            have HTL : Hid ((D.take N).length = N) := by show _ = _; rw [List.length_take, ← EN.out]; omega
            have HTD : Hid (∀ W, Kept w W → BytesAt W (some ⟨b1, o1, none⟩) (D.take N)) := fun W k => bytes_take (HL.out W k) N
            have R1 : Hid _ := SG.out.read1 (by decide) hD64 8 (by decide)
            rw [Nat.sub_zero, List.drop_zero, Nat.zero_add, ← EN.out, ← eN] at R1
            have R2 : Hid (∀ o W K, Sy o w2 W p D L zs rb qb ib K N 0 0 → K ≤ 9000 → _) := fun o W K (h : Sy o w2 W p D L zs rb qb ib K N 0 0) (hK : K ≤ 9000) => h.read2 hK hD64 8 (by decide)
            rw [Nat.sub_zero, List.drop_zero, Nat.zero_add, ← EN.out, ← eN] at R2
            have R3 : Hid (∀ o W K, Sy o w2 W p D L zs rb qb ib K N N 0 → K ≤ 9000 → _) := fun o W K (h : Sy o w2 W p D L zs rb qb ib K N N 0) (hK : K ≤ 9000) => h.read3 hK hD64 8 (by decide)
            rw [Nat.sub_zero, List.drop_zero, Nat.zero_add, ← EN.out, ← eN] at R3
            have R4 : Hid (∀ o W K, Sy o w2 W p D L zs rb qb ib K N N N → K ≤ 9000 → _) := fun o W K (h : Sy o w2 W p D L zs rb qb ib K N N N) (hK : K ≤ 9000) => h.read1 hK hD64 64 (by decide)
            have R5 : Hid (∀ o W K, Sy o w2 W p D L zs rb qb ib K n N N → K ≤ 9000 → _) := fun o W K (h : Sy o w2 W p D L zs rb qb ib K n N N) (hK : K ≤ 9000) => h.read2 hK hD64 64 (by decide)
            have R6 : Hid (∀ o W K, Sy o w2 W p D L zs rb qb ib K n n N → K ≤ 9000 → _) := fun o W K (h : Sy o w2 W p D L zs rb qb ib K n n N) (hK : K ≤ 9000) => h.read3 hK hD64 64 (by decide)
            have e64 : min 64 (n - N) = n - N := by omega
            have e64' : (D.drop N).take (n - N) = D.drop N := List.take_of_length_le (by rw [List.length_drop, ← EN.out]; exact Nat.le_refl _)
            have e64'' : N + (n - N) = n := by omega
            rw [← EN.out, e64, e64', e64''] at R4 R5 R6
            rw [show ((8 : Nat) : Int) = 8 from rfl] at R1 R2 R3
            rw [show ((64 : Nat) : Int) = 64 from rfl] at R4 R5 R6
            generalize D.take N = T at R1 R2 R3 HTL HTD
            have EMN : Hid (N = min 8 n) := eN
            clear e64 e64' e64'' hD64 SG eN
            go_wp2_with fail
            refine Calls.mono R1.out ?_
            rintro x Wh ⟨a, ca, oh, rfl, ra, st1, sy1⟩
            obtain ⟨ga, ca', ea, -⟩ := OwnB.addr ra.1 (by rw [HTL.out]; exact hN1)
            cases ea
            rw [HTL.out] at ra ⊢
            have A1 : Hid (Rw9 12 oh 0 Wh (.slice (some ⟨ga, 0, none⟩) N ca) T) := ⟨OwnB.lower ra.1 (Nat.zero_le _), ra.2⟩
            have B1 : Hid (Bx8 oh Wh yb (.cells #[.slice (some ⟨gy, 0, none⟩) ln cy, .int .i64 (n : Int)] 39)) := BG.out.on st1 (by decide)
            have R2' : Hid _ := R2.out oh Wh _ sy1 (by decide)
            clear R1 R2 ra st1 sy1 BG
            go_wp2_with fail
            refine Calls.mono R2'.out ?_
            rintro x Wi ⟨a, cb, oi, rfl, ra, st1, sy1⟩
            obtain ⟨gb, cb', ea, -⟩ := OwnB.addr ra.1 (by rw [HTL.out]; exact hN1)
            cases ea
            rw [HTL.out] at ra ⊢
            have A2 : Hid (Rw9 12 oi 0 Wi (.slice (some ⟨ga, 0, none⟩) N ca) T ∧ Rw9 22 oi 0 Wi (.slice (some ⟨gb, 0, none⟩) N cb) T) := ⟨A1.out.on st1 (by decide), OwnB.lower ra.1 (Nat.zero_le _), ra.2⟩
            have B2 : Hid (Bx8 oi Wi yb (.cells #[.slice (some ⟨gy, 0, none⟩) ln cy, .int .i64 (n : Int)] 39)) := B1.out.on st1 (by decide)
            have R3' : Hid _ := R3.out oi Wi _ sy1 (by decide)
            clear R2' R3 ra st1 sy1 B1 A1
            go_wp2_with fail
            refine Calls.mono R3'.out ?_
            rintro x Wj ⟨a, cc, oj, rfl, ra, st1, sy1⟩
            obtain ⟨gc, cc', ea, -⟩ := OwnB.addr ra.1 (by rw [HTL.out]; exact hN1)
            cases ea
            rw [HTL.out] at ra ⊢
            have A3 : Hid (Rw9 12 oj 0 Wj (.slice (some ⟨ga, 0, none⟩) N ca) T ∧ Rw9 22 oj 0 Wj (.slice (some ⟨gb, 0, none⟩) N cb) T ∧ Rw9 32 oj 0 Wj (.slice (some ⟨gc, 0, none⟩) N cc) T) := ⟨A2.out.1.on st1 (by decide), A2.out.2.on st1 (by decide), OwnB.lower ra.1 (Nat.zero_le _), ra.2⟩
            have B3 : Hid (Bx8 oj Wj yb (.cells #[.slice (some ⟨gy, 0, none⟩) ln cy, .int .i64 (n : Int)] 39)) := B2.out.on st1 (by decide)
            have SJ : Hid (Sy oj w2 Wj p D L zs rb qb ib 2200 N N N) := sy1
            clear R3' ra st1 sy1 B2 A2
            have HSM : Hid (∀ g1 g2 d1 d2, BytesAt Wj (some ⟨g1, 0, none⟩) T → BytesAt Wj (some g2) T → Calls Try.prog 9 #[.slice (some ⟨g1, 0, none⟩) N d1, .slice (some g2) N d2] Wj fun e w' => e = .returned (.bool true) ∧ w' = Wj) := fun g1 g2 d1 d2 hb1 hb2 => by
              have := same_true Wj (some ⟨g1, 0, none⟩) (some g2) d1 d2 T hb1 hb2 (by rw [HTL.out]; omega)
              rwa [HTL.out] at this
            have X1 : Hid (Calls _ _ _ _ _) := HSM.out ga ⟨gb, 0, none⟩ ca cb (BytesAt.at_own A3.out.1.1) (BytesAt.at_own A3.out.2.1.1)
            have X2 : Hid (Calls _ _ _ _ _) := HSM.out ga ⟨gc, 0, none⟩ ca cc (BytesAt.at_own A3.out.1.1) (BytesAt.at_own A3.out.2.2.1)
            have X3 : Hid (∀ m, m = N → Calls Try.prog 9 #[.slice (some ⟨ga, 0, none⟩) N ca, .slice (some ⟨b1, o1, none⟩) m c] Wj fun e w' => e = .returned (.bool true) ∧ w' = Wj) := fun m e => by
              rw [e]
              exact HSM.out ga ⟨b1, o1, none⟩ ca c (BytesAt.at_own A3.out.1.1) (HTD.out Wj (K2.out.trans' SJ.out.kept))
            clear HSM HTD
            go_upto_region 37 with fail
            go_cut [199] (fun s199 wx => s199 = .bool false ∧ wx = Wj)
            case first =>
              as_aux_lemma =>
                go_wp2_with fail
                refine Calls.mono X1.out ?_
                rintro e w7' ⟨rfl, e7⟩
                subst w7'
                clear X1
                go_wp2_with fail
                refine Calls.mono X2.out ?_
                rintro e w7' ⟨rfl, e7⟩
                subst w7'
                clear X2
                by_cases h8n : 8 ≤ n
                · have a1 : (8 : Int) ≤ (n : Int) := by omega
                  have a2 : ¬ (n : Int) < 8 := by omega
                  have a3 : (8 : Int) ≤ (c : Int) := by omega
                  have X3' : Hid (Calls _ _ _ _ _) := X3.out 8 (by rw [EMN.out]; omega)
                  clear X3
                  go_wp2_with fail
                  refine Calls.mono X3'.out ?_
                  rintro e w7' ⟨rfl, e7⟩
                  subst w7'
                  clear X3'
                  go_wp2_with fail
                  go_meet
                  exact ⟨rfl, rfl⟩
                · have a1 : ¬ (8 : Int) ≤ (n : Int) := by omega
                  have a2 : (n : Int) < 8 := by omega
                  have a3 : (n : Int) ≤ (c : Int) := by omega
                  have X3' : Hid (Calls _ _ _ _ _) := X3.out n (by rw [EMN.out]; omega)
                  clear X3
                  go_wp2_with fail
                  refine Calls.mono X3'.out ?_
                  rintro e w7' ⟨rfl, e7⟩
                  subst w7'
                  clear X3'
                  go_wp2_with fail
                  go_meet
                  exact ⟨rfl, rfl⟩
            case rest =>
            obtain ⟨rfl, hwc⟩ := hcut
            rw [hwc]
            clear hwc X1 X2 X3
            obtain ⟨W20, eW20⟩ : ∃ W20, W20 = Wj.alloc (.cells #[.slice (some ⟨ga, 0, none⟩) N ca, .slice (some ⟨gb, 0, none⟩) N cb, .slice (some ⟨gc, 0, none⟩) N cc] 22) := ⟨_, rfl⟩
            obtain ⟨LB, eLB⟩ : ∃ LB, LB = Wj.heap.size := ⟨_, rfl⟩
            have k20 : Kept Wj W20 := by rw [eW20]; exact (Same.refl _ Wj).alloc _
            have h20 : W20.heap[LB]? = some (.cells #[.slice (some ⟨ga, 0, none⟩) N ca, .slice (some ⟨gb, 0, none⟩) N cb, .slice (some ⟨gc, 0, none⟩) N cc] 22 (0, 0)) := by rw [eW20, eLB]; exact heap_new _ _
            have st20 : Step (fun _ => False) oj Wj (tagN Wj 0 oj) W20 := ⟨k20, fun k hk => tagN_old hk⟩
            obtain ⟨o20, yo, G, C, X0, HG⟩ : ∃ (o20 : Nat → Nat) (yo : Obj) (G C : Nat → Nat) (X0 : Nat → List Int), Hid (St8 o20 w2 W20 p D L zs rb qb ib 2200 N LB G C yb yo ∧ yo = .cells #[.slice (some ⟨gy, 0, none⟩) ln cy, .int .i64 (n : Int)] 39 ∧ (∀ i, i < 3 → Rw 0 W20 (G i) N (C i) (X0 i)) ∧ (∀ i, i < 3 → N ≤ 32)) := by
              have four : ∀ i, i < 3 → i = 0 ∨ i = 1 ∨ i = 2 := fun i hi => by omega
              refine ⟨tagN Wj 0 oj, _, pick3 ga gb gc, pick3 ca cb cc, fun _ => T, ⟨SJ.out.on st20 (fun e => e) (fun e => e) (fun e => e) (fun e => e) (fun e => e), fun i hi => ?_, lt_of_heap h20, tagN_new (by rw [eLB]; exact Nat.le_refl _), B3.out.on st20 (fun e => e), fun i hi => ?_⟩, rfl, fun i hi => ?_, fun i hi => by omega⟩
              · rcases four i hi with rfl | rfl | rfl <;> exact (cell_of h20 _).trans rfl
              · rcases four i hi with rfl | rfl | rfl
                · exact (A3.out.1.on st20 (fun e => e)).2 ga (by simp [Value.ownBlock])
                · exact (A3.out.2.1.on st20 (fun e => e)).2 gb (by simp [Value.ownBlock])
                · exact (A3.out.2.2.on st20 (fun e => e)).2 gc (by simp [Value.ownBlock])
              · rcases four i hi with rfl | rfl | rfl
                · exact (A3.out.1.on st20 (fun e => e)).1
                · exact (A3.out.2.1.on st20 (fun e => e)).1
                · exact (A3.out.2.2.on st20 (fun e => e)).1
            have HN4 : Hid (∀ i, i < 3 → N ≤ 32) := HG.out.2.2.2
            have EYO : Hid (yo = .cells #[.slice (some ⟨gy, 0, none⟩) ln cy, .int .i64 (n : Int)] 39) := HG.out.2.1
            go_upto_block 4 with fail
            rw [← eLB, ← eW20]
            clear k20 h20 st20 eLB eW20 A3 B3 SJ
            go_cut [26, 27, 28] (fun _ _ _ wx => St8 o20 w2 wx p D L zs rb qb ib 2200 N LB G C yb yo ∧ ∀ k, k < 3 → Rw 0 wx (G k) N (C k) (rep8 N k))
            case first =>
              as_aux_lemma =>
                go_wp2_with fail
                go_loopw [206] (fun i wr => ∃ (j : Nat) (X : Nat → List Int), j ≤ 3 ∧ i = .int .i64 j ∧ St8 o20 w2 wr p D L zs rb qb ib 2200 N LB G C yb yo ∧ (∀ k, k < 3 → Rw 0 wr (G k) N (C k) (X k)) ∧ (∀ k, k < j → X k = List.replicate N ((k : Int) + 1))) (fun i _ => 3 - (intOf i).toNat)
                case atStart => exact ⟨0, X0, by decide, rfl, HG.out.1, HG.out.2.2.1, fun k hk => absurd hk (by omega)⟩
                case round =>
                  obtain ⟨j, X, hj, rfl, hst, hrw, hdn⟩ := hrel
                  have HST : Hid _ := hst
                  have HRW : Hid _ := hrw
                  have HDN : Hid _ := hdn
                  clear hst hrw hdn
                  rename World => V1
                  by_cases hlt : j < 3
                  · have c1 : decide ((j : Int) < 3) = true := sq1 hlt
                    have hlt2 : (j : Int) < 3 := sq2 hlt
                    have q0 := HST.out.list j hlt
                    have hm1 : (j : Int) + 1 ≤ 255 := sq5 hlt
                    obtain ⟨M, eM⟩ : ∃ M : Nat, M = N := ⟨_, rfl⟩
                    have hM : (M : Int) ≤ 32 := by have := HN4.out j hlt; omega
                    rw [← eM] at q0
                    have EM : Hid _ := eM
                    have HLX : Hid ((X j).length = M) := by have := (Rw.len (HRW.out j hlt)).1; show (X j).length = M; omega
                    clear eM
                    go_wp2_with fail
                    go_loopw [213] (fun i wr => ∃ k : Nat, k ≤ M ∧ i = .int .i64 k ∧ Rw 0 wr (G j) M (C j) (mark ((j : Int) + 1) k (X j)) ∧ Same (fun b => b = G j) V1 wr) (fun i _ => M - (intOf i).toNat)
                    case atStart => exact ⟨0, Nat.zero_le _, rfl, by rw [mark_zero, EM.out]; exact HRW.out j hlt, Same.refl _ _⟩
                    case round =>
                      obtain ⟨k, hk, rfl, hr, hs⟩ := hrel
                      have HRK : Hid _ := hr
                      have HSK : Hid _ := hs
                      by_cases hkl : k < M
                      · have c2 : decide ((k : Int) < (M : Int)) = true := sq7 hkl
                        have hkl2 : (k : Int) < (M : Int) := sq8 hkl
                        obtain ⟨o1, f1, hbg⟩ := OwnB.set hr (i := k) (by rw [mark_len _ (by rw [HLX.out]; omega), HLX.out]; exact hkl) ((j : Int) + 1)
                        rw [mark_next _ (by rw [HLX.out]; exact hkl)] at o1
                        obtain ⟨y, hy⟩ : ∃ y, (mark ((j : Int) + 1) k (X j))[k]? = some y := ⟨_, List.getElem?_eq_getElem (by rw [mark_len _ (by rw [HLX.out]; omega), HLX.out]; exact hkl)⟩
                        obtain ⟨b', off', e', -, q1⟩ := BytesAt.at_own hr k y hy
                        cases e'
                        rw [Nat.zero_add] at q1
                        have O1 : Hid _ := o1
                        have S1 : Hid (Same (fun b => b = G j) V1 (wr.setCell ⟨G j, k, none⟩ (.int .u8 ((j : Int) + 1)))) := hs.setCell _ (.inr rfl) _
                        clear hr hs o1 hy
                        go_wp2_with fail
                        go_roundw
                        case rel => exact ⟨k + 1, hkl, by simp, O1.out, S1.out⟩
                        case measure => simp only [intOf]; omega
                      · have c2 : decide ((k : Int) < (M : Int)) = false := sq9 hkl
                        obtain rfl : M = k := Nat.le_antisymm (Nat.not_lt.1 hkl) hk
                        have FIN : Hid (St8 o20 w2 wr p D L zs rb qb ib 2200 N LB G C yb yo ∧ (∀ i, i < 3 → Rw 0 wr (G i) N (C i) (if i = j then List.replicate N ((j : Int) + 1) else X i))) := by
                          refine ⟨HST.out.by hlt hs, fun i hi => ?_⟩
                          by_cases e : i = j
                          · subst e
                            rw [if_pos rfl]
                            have := hr
                            rw [← HLX.out, mark_all, HLX.out, EM.out] at this
                            exact this
                          · rw [if_neg e]
                            exact Rw.kept (HRW.out i hi) hs (fun e2 => HST.out.ap hi hlt e e2)
                        clear hr hs
                        go_wp2_with fail
                        go_roundw
                        case rel =>
                          refine ⟨j + 1, _, hlt, by simp, FIN.out.1, FIN.out.2, fun i hi => ?_⟩
                          by_cases e : i = j
                          · subst e
                            rw [if_pos rfl]
                          · rw [if_neg e]
                            exact HDN.out i (by omega)
                        case measure => simp only [intOf]; omega
                  · have c1 : decide ((j : Int) < 3) = false := sq3 hlt
                    have hlt3 : ¬ (j : Int) < 3 := sq4 hlt
                    have H4 : Hid (∀ k, k < 3 → Rw 0 V1 (G k) N (C k) (rep8 N k)) := fun k hk => by
                      have := HRW.out k hk
                      rw [HDN.out k (by omega), rep8_eq N k] at this
                      exact this
                    clear HRW HDN hlt hj HG
                    go_wp2_with fail
                    go_meet
                    exact ⟨HST.out, H4.out⟩
            case rest =>
              have HST0 : Hid _ := hcut.1
              have H40 : Hid _ := hcut.2
              clear hcut HG
              go_upto_block 8 with fail
              go_cut [29, 30, 31] (fun _ _ _ wx => St8 o20 w2 wx p D L zs rb qb ib 2200 N LB G C yb yo ∧ ∀ k, k < 3 → BytesAt wx (some ⟨G k, 0, none⟩) (rep8 N k))
              case first =>
                as_aux_lemma =>
                  go_wp2_with fail
                  go_loopw [226] (fun i wr => ∃ j : Nat, j ≤ 3 ∧ i = .int .i64 j ∧ St8 o20 w2 wr p D L zs rb qb ib 2200 N LB G C yb yo ∧ (∀ k, k < 3 → BytesAt wr (some ⟨G k, 0, none⟩) (rep8 N k)) ∧ (∀ k, k < 3 → j ≤ k → Rw 0 wr (G k) N (C k) (rep8 N k))) (fun i _ => 3 - (intOf i).toNat)
                  case atStart => exact ⟨0, by decide, rfl, HST0.out, fun k hk => BytesAt.at_own (H40.out k hk), fun k hk _ => H40.out k hk⟩
                  case round =>
                    clear H40 HST0
                    obtain ⟨j, hj, rfl, hst, hby, hrw⟩ := hrel
                    have HST : Hid _ := hst
                    have HRW : Hid _ := hrw
                    have HBA : Hid _ := hby
                    clear hst hrw hby
                    rename World => V2
                    by_cases hlt : j < 3
                    · have c1 : decide ((j : Int) < 3) = true := sq1 hlt
                      have hlt2 : (j : Int) < 3 := sq2 hlt
                      have q0 := HST.out.list j hlt
                      have hm1 : (50 : Int) + (j : Int) ≤ 255 := sq6 hlt
                      obtain ⟨M, eM⟩ : ∃ M : Nat, M = N := ⟨_, rfl⟩
                      have HM : Hid (M ≤ 32) := by have := HN4.out j hlt; show M ≤ _; omega
                      rw [← eM] at q0
                      have EM : Hid _ := eM
                      have HLM : Hid ((rep8 N j).length = M) := by rw [eM]; exact rep8_len N j
                      have HGL : Hid (G j < V2.heap.size) := (Rw.lt (HRW.out j hlt (Nat.le_refl _))).2
                      clear eM
                      go_wp2_with fail
                      go_loopw [30, 31] (fun v i wr => ∃ (t g cc : Nat), t ≤ 40 ∧ i = .int .i64 t ∧ v = .slice (some ⟨g, 0, none⟩) (M + t) cc ∧ Rw 0 wr g (M + t) cc (rep8 N j ++ List.replicate t (50 + (j : Int))) ∧ BytesAt wr (some ⟨G j, 0, none⟩) (rep8 N j) ∧ (g = G j ∨ V2.heap.size ≤ g) ∧ Same (fun b => b = G j) V2 wr) (fun _ i _ => 40 - (intOf i).toNat)
                      case atStart => exact ⟨0, G j, C j, by decide, rfl, rfl, by rw [List.replicate_zero, List.append_nil, Nat.add_zero, EM.out]; exact HRW.out j hlt (Nat.le_refl _), HBA.out j hlt, .inl rfl, Same.refl _ _⟩
                      case round =>
                        obtain ⟨t, g, cc, ht, rfl, rfl, hr, hb, hg, hs⟩ := hrel
                        have HRK : Hid _ := hr
                        have HBK : Hid _ := hb
                        have HGK : Hid _ := hg
                        have HSK : Hid _ := hs
                        clear hr hb hg hs
                        by_cases htl : t < 40
                        · have c2 : decide ((t : Int) < 40) = true := sqA htl
                          have htl2 : (t : Int) < 40 := sqB htl
                          have hxl : (rep8 N j ++ List.replicate t (50 + (j : Int))).length = M + t := by rw [List.length_append, HLM.out, List.length_replicate]
                          have HAP : Hid _ := app_more (50 + (j : Int)) (w := wr) (base := 0) (g := g) (c := cc) (xs := rep8 N j ++ List.replicate t (50 + (j : Int))) (by rw [hxl]; exact HRK.out) (by rw [hxl]; have := HM.out; omega) (Nat.zero_le _)
                          rw [hxl] at HAP
                          clear hxl
                          go_upto_region 54 with (at_builtin; refine wpList_app rfl (.tmp 235) (.tmp 239) 22 rfl (.slice (some ⟨g, 0, none⟩) (M + t) cc) (.slice (some ⟨wr.heap.size, 0, none⟩) 1 1) rfl rfl _ HAP.out ?_; rintro v5 w5 ⟨g5, c5, rfl, r5, b5, s5, hg5⟩)
                          have HREL : Hid (∃ (t' g' cc' : Nat), t' ≤ 40 ∧ (Value.int .i64 ((t : Int) + 1)) = .int .i64 (t' : Int) ∧ (Value.slice (some ⟨g5, 0, none⟩) (M + t + 1) c5) = .slice (some ⟨g', 0, none⟩) (M + t') cc' ∧ Rw 0 w5 g' (M + t') cc' (rep8 N j ++ List.replicate t' (50 + (j : Int))) ∧ BytesAt w5 (some ⟨G j, 0, none⟩) (rep8 N j) ∧ (g' = G j ∨ V2.heap.size ≤ g') ∧ Same (fun b => b = G j) V2 w5) := by
                            refine ⟨t + 1, g5, c5, htl, by simp, rfl, ?_, ?_, ?_, ?_⟩
                            · rw [List.replicate_succ', ← List.append_assoc]
                              exact r5
                            · rcases HGK.out with e | e
                              · rw [← e]
                                exact bytes_pre b5
                              · exact BytesAt.kept HBK.out s5 (fun k hk e2 => by obtain ⟨_, off, e'⟩ := hk; cases e'; have := HGL.out; omega)
                            · have z := HSK.out.size
                              rcases hg5 with e | e
                              · rw [e]; exact HGK.out
                              · exact .inr (by omega)
                            · exact Same.trans HSK.out s5 (fun i hi e => by
                                rcases HGK.out with e2 | e2
                                · rw [e]; exact e2
                                · omega)
                          clear r5 b5 s5 hg5 HAP
                          go_wp2_with fail
                          go_roundw
                          case rel => exact HREL.out
                          case measure => simp only [intOf]; omega
                        · have c2 : decide ((t : Int) < 40) = false := sqC htl
                          have htl3 : ¬ (t : Int) < 40 := sqD htl
                          have FIN : Hid (St8 o20 w2 wr p D L zs rb qb ib 2200 N LB G C yb yo ∧ (∀ k, k < 3 → BytesAt wr (some ⟨G k, 0, none⟩) (rep8 N k)) ∧ (∀ k, k < 3 → j + 1 ≤ k → Rw 0 wr (G k) N (C k) (rep8 N k))) := by
                            refine ⟨HST.out.by hlt HSK.out, fun k hk => ?_, fun k hk hkj => ?_⟩
                            · by_cases e : k = j
                              · subst e
                                exact HBK.out
                              · exact BytesAt.kept (HBA.out k hk) HSK.out (fun b hb e2 => by obtain ⟨_, off, e'⟩ := hb; cases e'; exact HST.out.ap hk hlt e e2)
                            · exact Rw.kept (HRW.out k hk (by omega)) HSK.out (fun e2 => HST.out.ap hk hlt (by omega) e2)
                          clear HRK HBK HGK HSK
                          go_wp2_with fail
                          go_roundw
                          case rel => exact ⟨j + 1, hlt, by simp, FIN.out.1, FIN.out.2.1, FIN.out.2.2⟩
                          case measure => simp only [intOf]; omega
                    · have c1 : decide ((j : Int) < 3) = false := sq3 hlt
                      have hlt3 : ¬ (j : Int) < 3 := sq4 hlt
                      clear HRW hlt hj
                      go_wp2_with fail
                      go_meet
                      exact ⟨HST.out, HBA.out⟩
              case rest =>
                have HST1 : Hid _ := hcut.1
                have HBA1 : Hid _ := hcut.2
                clear hcut HST0 H40
                go_upto_block 12 with fail
                go_cut [32, 33, 34] (fun _ _ _ wx => St8 o20 w2 wx p D L zs rb qb ib 2200 N LB G C yb yo)
                case first =>
                  as_aux_lemma =>
                    go_wp2_with fail
                    go_loopw [244] (fun i wr => ∃ j : Nat, j ≤ 3 ∧ i = .int .i64 j ∧ St8 o20 w2 wr p D L zs rb qb ib 2200 N LB G C yb yo ∧ (∀ k, k < 3 → BytesAt wr (some ⟨G k, 0, none⟩) (rep8 N k))) (fun i _ => 3 - (intOf i).toNat)
                    case atStart => exact ⟨0, by decide, rfl, HST1.out, HBA1.out⟩
                    case round =>
                      clear HST1 HBA1
                      obtain ⟨j, hj, rfl, hst, hby⟩ := hrel
                      have HST : Hid _ := hst
                      have HBA : Hid _ := hby
                      clear hst hby
                      rename World => V3
                      by_cases hlt : j < 3
                      · have c1 : decide ((j : Int) < 3) = true := sq1 hlt
                        have hlt2 : (j : Int) < 3 := sq2 hlt
                        have q0 := HST.out.list j hlt
                        have hm1 : (j : Int) + 1 ≤ 255 := sq5 hlt
                        obtain ⟨M, eM⟩ : ∃ M : Nat, M = N := ⟨_, rfl⟩
                        have hM : (M : Int) ≤ 32 := by have := HN4.out j hlt; omega
                        rw [← eM] at q0
                        have HGT : Hid (∀ i, i < M → (rep8 N j)[i]? = some ((j : Int) + 1)) := fun i hi => rep8_get N j i (by omega)
                        clear eM
                        go_wp2_with fail
                        go_loopw [251] (fun i wr => ∃ k : Nat, k ≤ M ∧ i = .int .i64 k ∧ Kept V3 wr) (fun i _ => M - (intOf i).toNat)
                        case atStart => exact ⟨0, Nat.zero_le _, rfl, Same.refl _ _⟩
                        case round =>
                          obtain ⟨k, hk, rfl, ks⟩ := hrel
                          have KS : Hid _ := ks
                          by_cases hkl : k < M
                          · have c2 : decide ((k : Int) < (M : Int)) = true := sq7 hkl
                            have hkl2 : (k : Int) < (M : Int) := sq8 hkl
                            obtain ⟨b', off', e', -, q1⟩ := BytesAt.kept (HBA.out j hlt) ks (fun _ _ h => h) k _ (HGT.out k hkl)
                            cases e'
                            rw [Nat.zero_add] at q1
                            have hne : ((j : Int) + 1 != (j : Int) + 1) = false := by simp
                            clear ks
                            go_wp2_with fail
                            go_roundw
                            case rel => exact ⟨k + 1, hkl, by simp, KS.out⟩
                            case measure => simp only [intOf]; omega
                          · have c2 : decide ((k : Int) < (M : Int)) = false := sq9 hkl
                            clear ks
                            go_wp2_with fail
                            go_roundw
                            case rel => exact ⟨j + 1, hlt, by simp, HST.out.on KS.out, fun i hi => BytesAt.kept (HBA.out i hi) KS.out (fun _ _ h => h)⟩
                            case measure => simp only [intOf]; omega
                      · have c1 : decide ((j : Int) < 3) = false := sq3 hlt
                        have hlt3 : ¬ (j : Int) < 3 := sq4 hlt
                        have HF : Hid _ := HST.out
                        clear hlt hj HST HBA
                        go_wp2_with fail
                        go_meet
                        exact HF.out
                case rest =>
                  have HST : Hid _ := hcut
                  clear hcut HST1 HBA1
                  rename World => V3
                  go_wp2_with fail
                  have R4' : Hid _ := R4.out o20 V3 2200 HST.out.sm (by decide)
                  refine Calls.mono R4'.out ?_
                  rintro x Wk ⟨ak, ck, ok, rfl, ra, st1, sy1⟩
                  have HDL : Hid ((D.drop N).length = n - N) := by show _ = _; rw [List.length_drop, ← EN.out]
                  rw [HDL.out] at ra ⊢
                  have A1 : Hid (Rw9 12 ok V3.heap.size Wk (.slice ak (n - N) ck) (D.drop N)) := ra
                  have B1 : Hid (Bx8 ok Wk yb yo) := HST.out.box.on st1 (by decide)
                  have R5' : Hid _ := R5.out ok Wk _ sy1 (by decide)
                  clear R4' R4 R5 ra st1 sy1 HST
                  go_wp2_with fail
                  refine Calls.mono R5'.out ?_
                  rintro x Wl ⟨al, cl, ol, rfl, ra, st1, sy1⟩
                  rw [HDL.out] at ra ⊢
                  have A2 : Hid (Rw9 12 ol V3.heap.size Wl (.slice ak (n - N) ck) (D.drop N) ∧ Rw9 22 ol Wk.heap.size Wl (.slice al (n - N) cl) (D.drop N)) := ⟨A1.out.on st1 (by decide), ra⟩
                  have B2 : Hid (Bx8 ol Wl yb yo) := B1.out.on st1 (by decide)
                  have R6' : Hid _ := R6.out ol Wl _ sy1 (by decide)
                  clear R5' R6 ra st1 sy1 A1 B1
                  go_wp2_with fail
                  refine Calls.mono R6'.out ?_
                  rintro x Wm ⟨am, cm, om, rfl, ra, st1, sy1⟩
                  rw [HDL.out] at ra ⊢
                  have A3 : Hid (Rw9 12 om V3.heap.size Wm (.slice ak (n - N) ck) (D.drop N) ∧ Rw9 22 om Wk.heap.size Wm (.slice al (n - N) cl) (D.drop N) ∧ Rw9 32 om Wl.heap.size Wm (.slice am (n - N) cm) (D.drop N)) := ⟨A2.out.1.on st1 (by decide), A2.out.2.on st1 (by decide), ra⟩
                  have B3 : Hid (Bx8 om Wm yb yo) := B2.out.on st1 (by decide)
                  have KM : Hid (Kept w Wm) := K2.out.trans' sy1.kept
                  clear R6' ra st1 sy1 A2 B2
                  have HQ : Hid (∀ a c v d1, OwnB8 v Wm (.slice a (n - N) c) (D.drop N) → ∀ b2, BytesAt Wm b2 (D.drop N) → Calls Try.prog 9 #[.slice a (n - N) c, .slice b2 (n - N) d1] Wm fun e w' => e = .returned (.bool true) ∧ w' = Wm) := fun a c v d1 ho b2 hb => by
                    obtain ⟨a', c', e, hba, -⟩ := OwnB.bytes ho
                    simp only [Value.slice.injEq] at e
                    obtain ⟨rfl, -, rfl⟩ := e
                    have := same_true Wm a b2 c d1 (D.drop N) hba hb (by rw [HDL.out]; omega)
                    rwa [HDL.out] at this
                  have EMN2 : N = min 8 n := EMN.out
                  have hyb := B3.out.1
                  rw [show yo = _ from EYO.out] at hyb
                  have y0 := cell_of hyb 0
                  have ly := lt_of_heap hyb
                  have HBY : Hid (BytesAt Wm (some ⟨b1, o1, none⟩) D) := HL.out Wm KM.out
                  clear hyb B3 HN4 EYO
                  simp at y0
                  have HX : Hid (∀ b2 d1, BytesAt Wm b2 (D.drop N) → Calls Try.prog 9 #[.slice ak (n - N) ck, .slice b2 (n - N) d1] Wm (fun e w' => e = .returned (.bool true) ∧ w' = Wm) ∧ Calls Try.prog 9 #[.slice al (n - N) cl, .slice b2 (n - N) d1] Wm (fun e w' => e = .returned (.bool true) ∧ w' = Wm) ∧ Calls Try.prog 9 #[.slice am (n - N) cm, .slice b2 (n - N) d1] Wm (fun e w' => e = .returned (.bool true) ∧ w' = Wm)) := fun b2 d1 hb => ⟨HQ.out ak ck _ d1 A3.out.1.1 b2 hb, HQ.out al cl _ d1 A3.out.2.1.1 b2 hb, HQ.out am cm _ d1 A3.out.2.2.1 b2 hb⟩
                  have HDL2 : Hid (D.length = n) := EN.out.symm
                  have hlq : ln = (n + 15) / 16 := by
                    have q1 := ELN.out
                    have q2 := HLN.out.1
                    rw [HDL2.out] at q2
                    unfold nblk at q2
                    omega
                  have hq1 : ((n : Int) + 15) / 16 = (ln : Int) := by omega
                  have hq2 : Int.tdiv ((n : Int) + 15) 16 = (ln : Int) := by rw [Int.tdiv_eq_ediv_of_nonneg (by omega)]; exact hq1
                  have hn64 : (n : Int) ≤ 64 := by omega
                  clear HQ A3 hlq
                  by_cases h8n : 8 ≤ n
                  · have hN : N = 8 := by omega
                    subst hN
                    have a1 : (8 : Int) ≤ (n : Int) := by omega
                    have a2 : ¬ (n : Int) < 8 := by omega
                    have a3 : (8 : Int) ≤ (c : Int) := by omega
                    clear EMN2 EMN
                    by_cases hc8 : c = 8
                    · have a4 : (c : Int) = 8 := by omega
                      have X := HX.out (some ⟨b1, o1, none⟩) 0 (by rw [List.drop_eq_nil_of_le (by rw [HDL2.out]; omega)]; exact BytesAt.nil _ _)
                      have X1 : Hid (Calls _ _ _ _ _) := X.1
                      have X2 : Hid (Calls _ _ _ _ _) := X.2.1
                      have X3 : Hid (Calls _ _ _ _ _) := X.2.2
                      clear X HX HBY
                      go_wp2_with fail
                      refine Calls.mono X1.out ?_
                      rintro e wq ⟨rfl, eq⟩
                      subst wq
                      clear X1
                      go_wp2_with fail
                      refine Calls.mono X2.out ?_
                      rintro e wq ⟨rfl, eq⟩
                      subst wq
                      clear X2
                      go_wp2_with fail
                      refine Calls.mono X3.out ?_
                      rintro e wq ⟨rfl, eq⟩
                      subst wq
                      clear X3
                      go_wp2_with fail
                      go_ret
                      exact ⟨rfl, KM.out⟩
                    · have a4 : ¬ (c : Int) = 8 := by omega
                      have X := HX.out (some ⟨b1, o1 + 8, none⟩) (c - 8) (bytes_drop8 HBY.out 8)
                      have X1 : Hid (Calls _ _ _ _ _) := X.1
                      have X2 : Hid (Calls _ _ _ _ _) := X.2.1
                      have X3 : Hid (Calls _ _ _ _ _) := X.2.2
                      clear X HX HBY
                      go_wp2_with fail
                      refine Calls.mono X1.out ?_
                      rintro e wq ⟨rfl, eq⟩
                      subst wq
                      clear X1
                      go_wp2_with fail
                      refine Calls.mono X2.out ?_
                      rintro e wq ⟨rfl, eq⟩
                      subst wq
                      clear X2
                      go_wp2_with fail
                      refine Calls.mono X3.out ?_
                      rintro e wq ⟨rfl, eq⟩
                      subst wq
                      clear X3
                      go_wp2_with fail
                      go_ret
                      exact ⟨rfl, KM.out⟩
                  · have hN : N = n := by omega
                    subst hN
                    have a1 : ¬ (8 : Int) ≤ (N : Int) := by omega
                    have a2 : (N : Int) < 8 := by omega
                    have a3 : (N : Int) ≤ (c : Int) := by omega
                    clear EMN2 EMN
                    have HY : Hid (∀ b2 d1, Calls Try.prog 9 #[.slice ak 0 ck, .slice b2 0 d1] Wm (fun e w' => e = .returned (.bool true) ∧ w' = Wm) ∧ Calls Try.prog 9 #[.slice al 0 cl, .slice b2 0 d1] Wm (fun e w' => e = .returned (.bool true) ∧ w' = Wm) ∧ Calls Try.prog 9 #[.slice am 0 cm, .slice b2 0 d1] Wm (fun e w' => e = .returned (.bool true) ∧ w' = Wm)) := fun b2 d1 => by
                      have h9 := HX.out b2 d1 (by rw [List.drop_eq_nil_of_le (by rw [HDL2.out]; exact Nat.le_refl _)]; exact BytesAt.nil _ _)
                      rw [Nat.sub_self] at h9
                      exact h9
                    clear HX HBY
                    by_cases hc8 : c = N
                    · have a4 : (c : Int) = (N : Int) := by omega
                      have X1 : Hid (Calls _ _ _ _ _) := (HY.out (some ⟨b1, o1, none⟩) 0).1
                      have X2 : Hid (Calls _ _ _ _ _) := (HY.out (some ⟨b1, o1, none⟩) 0).2.1
                      have X3 : Hid (Calls _ _ _ _ _) := (HY.out (some ⟨b1, o1, none⟩) 0).2.2
                      clear HY
                      go_wp2_with fail
                      refine Calls.mono X1.out ?_
                      rintro e wq ⟨rfl, eq⟩
                      subst wq
                      clear X1
                      go_wp2_with fail
                      refine Calls.mono X2.out ?_
                      rintro e wq ⟨rfl, eq⟩
                      subst wq
                      clear X2
                      go_wp2_with fail
                      refine Calls.mono X3.out ?_
                      rintro e wq ⟨rfl, eq⟩
                      subst wq
                      clear X3
                      go_wp2_with fail
                      go_ret
                      exact ⟨rfl, KM.out⟩
                    · have a4 : ¬ (c : Int) = (N : Int) := by omega
                      have X1 : Hid (Calls _ _ _ _ _) := (HY.out (some ⟨b1, o1 + N, none⟩) (c - N)).1
                      have X2 : Hid (Calls _ _ _ _ _) := (HY.out (some ⟨b1, o1 + N, none⟩) (c - N)).2.1
                      have X3 : Hid (Calls _ _ _ _ _) := (HY.out (some ⟨b1, o1 + N, none⟩) (c - N)).2.2
                      clear HY
                      go_wp2_with fail
                      refine Calls.mono X1.out ?_
                      rintro e wq ⟨rfl, eq⟩
                      subst wq
                      clear X1
                      go_wp2_with fail
                      refine Calls.mono X2.out ?_
                      rintro e wq ⟨rfl, eq⟩
                      subst wq
                      clear X2
                      go_wp2_with fail
                      refine Calls.mono X3.out ?_
                      rintro e wq ⟨rfl, eq⟩
                      subst wq
                      clear X3
                      go_wp2_with fail
                      go_ret
                      exact ⟨rfl, KM.out⟩
end Go.Proofs.Ytpjkmficpedmcaa
