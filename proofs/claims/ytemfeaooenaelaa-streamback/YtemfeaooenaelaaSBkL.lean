/- What is proved: the law StreamBack returns true and turns nothing that was there; the bounds that a machine's memory sets. -/
import Derived.Test.YtemfeaooenaelaaSBkF
import Derived.Test.YtemfeaooenaelaaSOpenA
namespace Go.Proofs.Ytemfeaooenaelaa
open Go.RowKit

/-- The pieces P lie in w from address a on, as an argument. -/
def PcsAt (w : World) (a : Option Addr) (P : List (List Int)) : Prop :=
  ∀ i l, P[i]? = some l → ∃ b off x c, a = some ⟨b, off, none⟩ ∧ b < w.heap.size ∧ w.cell? ⟨b, off + i, none⟩ = some (.slice x l.length c) ∧ BytesAt w x l ∧ (x = none → l.length = 0 ∧ c = 0) ∧ l.length ≤ 140737488351232
theorem PcsAt.on {w w' : World} {a : Option Addr} {P : List (List Int)} (h : PcsAt w a P) (k : Kept w w') : PcsAt w' a P := fun i l hl => by
  obtain ⟨b, off, x, c, rfl, hb, h1, h2, h3, h4⟩ := h i l hl
  exact ⟨b, off, x, c, rfl, Nat.lt_of_lt_of_le hb k.size, (k.cell (p := ⟨b, off + i, none⟩) hb (fun e => e)).trans h1, h2.kept k (fun _ _ h => h), h3, h4⟩
theorem take_fl {P : List (List Int)} {q : Nat} {l : List Int} (h : P[q]? = some l) : (P.take (q + 1)).flatten = (P.take q).flatten ++ l := by
  rw [List.take_add_one, h]
  simp
theorem field_cnt2 (a b c d : Value) (W : World) : (Instr.field 49 (.agg #[a, b, c, d]) 2).run Try.prog W = .ok c W := by kernel_rfl
theorem field_cnt1 (a b c d : Value) (W : World) : (Instr.field 49 (.agg #[a, b, c, d]) 1).run Try.prog W = .ok b W := by kernel_rfl
set_option maxRecDepth 100000 in
set_option maxHeartbeats 4000000 in
theorem back_go (w : World) (B : Nat) (hB1 : 16 ≤ B) (hB2 : B ≤ 1024) (pa : Option Addr) (pc : Nat) (P : List (List Int)) (hP : PcsAt w pa P) (hPl : P.length ≤ 140737488351232) (oa : Option Addr) (c : Nat) (o : List Int) (ho : ArgB w oa c o) (hol : o.length ≤ 1000) :
    Calls Try.prog 5 #[.int .i64 (B : Int), .slice pa P.length pc, .slice oa o.length c] w fun e w' => e = .returned (.bool true) ∧ Kept w w' := by
  have HAN : Hid _ := anchor_any8 w
  have hnot : ∀ (x : Bool) (w : World), (Op.unary .not (.bool x)).run Try.prog w = .ok (.bool (!x)) w := fun _ _ => rfl
  have HP : Hid _ := hP
  have HO : Hid _ := ho
  obtain ⟨n, en⟩ : ∃ n, n = P.length := ⟨_, rfl⟩
  obtain ⟨ol, eo⟩ : ∃ ol, ol = o.length := ⟨_, rfl⟩
  have EN : Hid _ := en
  have EO : Hid _ := eo
  rw [← en, ← eo]
  rw [← en] at hPl
  rw [← eo] at hol
  have t1 : ¬ ((B : Int) < 16) := by omega
  have t2 : ¬ ((1024 : Int) < (B : Int)) := by omega
  have t3 : ¬ ((1000 : Int) < (ol : Int)) := by omega
  have t4 : ¬ (1000 < ol) := by omega
  have t5 : ¬ (1024 < B) := by omega
  have t6 : ¬ (B < 16) := by omega
  have HNW : Hid (∀ W : World, _) := fun W => new_yes B 4096 none none none 0 0 0 [] [] [] W (BytesAt.nil _ _) (BytesAt.nil _ _) (FaultsAt.nil _ _) (fun _ => ⟨rfl, rfl⟩) (fun _ => ⟨rfl, rfl⟩) (by unfold chk okG; simp; omega)
  clear hP ho en eo
  go_enter Try.func5, Try.ntmps5
  go_wp2_with fail
  refine Calls.mono HAN.out ?_
  rintro x w1 ⟨rfl, k1⟩
  have K1 : Hid _ := k1
  clear k1 HAN
  go_wp2_with fail
  go_loopw [7, 36] (fun t i wr => ∃ q : Nat, q ≤ n ∧ i = .int .i64 (q : Int) ∧ t = .int .i64 (((P.take q).flatten.length : Nat) : Int) ∧ (P.take q).flatten.length ≤ 24000 ∧ (∀ l ∈ P.take q, l.length ≤ 4000) ∧ wr = w1) (fun _ i _ => n - (intOf i).toNat)
  case atStart => exact ⟨0, Nat.zero_le _, rfl, rfl, Nat.zero_le _, fun l hl => (by simp at hl), rfl⟩
  case round =>
    obtain ⟨q, hq, rfl, rfl, htot, hall, rfl⟩ := hrel
    by_cases hlt : q < n
    · have e1 : decide ((q : Int) < (n : Int)) = true := decide_eq_true (by omega)
      have e1' : (q : Int) < (n : Int) := by omega
      obtain ⟨l, hl⟩ : ∃ l, P[q]? = some l := ⟨_, List.getElem?_eq_getElem (by rw [← EN.out]; exact hlt)⟩
      obtain ⟨bb, off, x, cx, rfl, hbb, cl, hby, hnil, hlen⟩ := (PcsAt.on HP.out K1.out) q l hl
      have HTK : Hid _ := take_fl hl
      have HALL : Hid (l.length ≤ 4000 → ∀ x ∈ P.take (q + 1), x.length ≤ 4000) := fun h x hx => by
        rw [List.take_add_one, hl] at hx
        rcases List.mem_append.1 hx with hx | hx
        · exact hall x hx
        · simp at hx
          subst hx
          exact h
      have HQ : Hid _ := hlt
      obtain ⟨z, ez⟩ : ∃ z, z = (P.take q).flatten.length := ⟨_, rfl⟩
      rw [← ez] at htot ⊢
      have EZ : Hid _ := ez
      obtain ⟨m, em⟩ : ∃ m, m = l.length := ⟨_, rfl⟩
      rw [← em] at cl hlen HALL
      have EM : Hid _ := em
      clear hall hl hby hnil ez em HNW
      by_cases h4 : 4000 < m
      · have g1 : (4000 : Int) < (m : Int) := by omega
        go_wp2_with fail
        go_ret
        exact ⟨rfl, K1.out⟩
      · have g1 : ¬ (4000 : Int) < (m : Int) := by omega
        by_cases h5 : 20000 < z
        · have g2 : (20000 : Int) < (z : Int) := by omega
          go_wp2_with fail
          go_ret
          exact ⟨rfl, K1.out⟩
        · have g2 : ¬ (20000 : Int) < (z : Int) := by omega
          have hw : IntKind.i64.wrap ((z : Int) + (m : Int)) = (z : Int) + (m : Int) := by rw [IntKind.wrap_i64]; omega
          go_wp2_with fail
          go_roundw
          case rel => exact ⟨q + 1, HQ.out, by rw [Int.natCast_add]; rfl, by rw [HTK.out, List.length_append, ← EZ.out, ← EM.out, Int.natCast_add], by rw [HTK.out, List.length_append, ← EZ.out, ← EM.out]; omega, HALL.out (by omega), by first | trivial | rfl⟩
          case measure => simp only [intOf]; omega
    · obtain rfl : n = q := by omega
      have e1 : decide ((n : Int) < (n : Int)) = false := by simp
      have etk : P.take n = P := by rw [EN.out, List.take_length]
      rw [etk] at htot hall ⊢
      have HT : Hid _ := (⟨htot, hall⟩ : _ ∧ _)
      generalize P.flatten.length = tot at htot ⊢
      clear hq hlt etk hall
      go_wp2_with fail
      refine Calls.mono (HNW.out _) ?_
      rintro x w2 ⟨p, rfl, h2, hf2, k2⟩
      have H2 : Hid _ := (⟨h2, hf2, k2⟩ : _ ∧ _ ∧ _)
      have HSP : Hid _ := nw_any (tagD p) 4096 (Nat.le_refl _) w2
      clear h2 hf2 k2 HNW
      go_wp2_with fail
      refine Calls.mono HSP.out ?_
      rintro x w3 ⟨sp, rfl, s3, k3, -⟩
      have H3 : Hid _ := (⟨s3, k3⟩ : _ ∧ _)
      have HC1 : Hid _ := create_any (tagN w2 2 (tagD p)) 3 w3 p sp
      clear s3 k3 HSP
      go_wp2_with fail
      refine Calls.mono HC1.out ?_
      rintro x w4 ⟨wb, rfl, t4, k4, -⟩
      have H4 : Hid _ := (⟨t4, k4⟩ : _ ∧ _)
      have HC2 : Hid _ := create_any (tagN w3 3 (tagN w2 2 (tagD p))) 4 w4 p sp
      clear t4 k4 HC1
      go_wp2_with fail
      refine Calls.mono HC2.out ?_
      rintro x w5 ⟨vb, rfl, t5, k5, -⟩
      have HBK : Hid _ := Bk.start (w := wr) (by omega) H2.out.1 H2.out.2.1 H2.out.2.2 H3.out.1 H3.out.2 H4.out.1 H4.out.2 t5 k5
      clear t5 k5 HC2 H2 H3 H4
      go_wp2_with fail
      obtain ⟨w0, ew0⟩ : ∃ w0, w0 = wr := ⟨_, rfl⟩
      rw [← ew0] at HBK K1
      clear ew0
      generalize tagN w4 4 (tagN w3 3 (tagN w2 2 (tagD p))) = o5 at *
      go_loopw [16, 17, 101] (fun av tv i wi => ∃ q : Nat, (∃ (ow : Nat → Nat) (e : List Int), Bk ow w0 B p sp 3 4 wb vb wi (P.take q).flatten e ∧ Rw9 9 ow w0.heap.size wi av (P.take q).flatten ∧ Rw9 10 ow w0.heap.size wi tv e ∧ e.length ≤ 20000) ∧ q ≤ n ∧ i = .int .i64 (q : Int)) (fun _ _ i _ => n - (intOf i).toNat)
      case atStart => exact ⟨0, ⟨_, [], HBK.out, Rw9.nil _ _ _ _, Rw9.nil _ _ _ _, Nat.zero_le _⟩, Nat.zero_le _, rfl⟩
      case round =>
        clear HBK
        obtain ⟨q, ⟨ow, e, bk, ra, rt, hel⟩, hq, rfl⟩ := hrel
        obtain ⟨aa, ac, rfl, -⟩ := BytesAt.of_row ra.1
        obtain ⟨ta, tc, rfl, -⟩ := BytesAt.of_row rt.1
        by_cases hlt : q < n
        · have e1 : decide ((q : Int) < (n : Int)) = true := decide_eq_true (by omega)
          have e1' : (q : Int) < (n : Int) := by omega
          have HQ : Hid _ := hlt
          obtain ⟨l, hl⟩ : ∃ l, P[q]? = some l := ⟨_, List.getElem?_eq_getElem (by rw [← EN.out]; exact hlt)⟩
          have hl4 : l.length ≤ 4000 := HT.out.2 l (List.mem_of_getElem? hl)
          have hdl : (P.take q).flatten.length + l.length ≤ 24000 := by
            have q1 := congrArg List.length (take_fl hl)
            rw [List.length_append] at q1
            have q2 := congrArg (fun X : List (List Int) => X.flatten.length) (List.take_append_drop (q + 1) P)
            simp only [List.flatten_append, List.length_append] at q2
            have := HT.out.1
            omega
          obtain ⟨bb, off, x, cx, rfl, hbb, cl, hby, hnil, hlen⟩ := (PcsAt.on HP.out (K1.out.trans' bk.kept)) q l hl
          have HTK : Hid _ := take_fl hl
          have HCL : Hid (∀ g, g = wr.heap.size → ∀ ty, _) := fun g (hg : g = wr.heap.size) ty => by
            have := clone8 (c := cx) hby hnil (by omega) ty
            rw [← hg] at this
            exact this
          have HST : Hid _ := (⟨bk, ra, rt, hby⟩ : _ ∧ _ ∧ _ ∧ _)
          have HLQ : Hid _ := hl
          have CL : Hid _ := cl
          obtain ⟨D, eD⟩ : ∃ D, D = (P.take q).flatten := ⟨_, rfl⟩
          rw [← eD] at HST hdl HTK
          obtain ⟨dl, edl⟩ : ∃ dl, dl = (P.take q).flatten.length := ⟨_, rfl⟩
          rw [← edl]
          have EDL : Hid (dl = D.length) := by show dl = D.length; rw [edl, eD]
          have EDL' : Hid _ := edl
          obtain ⟨m, em⟩ : ∃ m, m = l.length := ⟨_, rfl⟩
          have EM : Hid _ := em
          rw [← em] at cl HCL hlen
          obtain ⟨el, eel⟩ : ∃ el, el = e.length := ⟨_, rfl⟩
          have EEL : Hid _ := eel
          rw [← eel]
          have HB : Hid _ := (⟨hl4, hdl, hel, hnil⟩ : _ ∧ _ ∧ _ ∧ _)
          clear bk ra rt hby hnil hl eD edl em eel hl4 hdl hel hbb
          go_wp2_with (at_builtin; apply Hid.out)
          refine wpList_app rfl (.tmp 107) (.tmp 108) 22 rfl (.slice (some ⟨_, 0, none⟩) 0 0) (.slice x m cx) rfl rfl _ (HCL.out _ (by first | rfl | simp)) ?_
          rintro v6 w6 ⟨a6, c6, rfl, b6, n6, cap6, nil6, sp6, k6⟩
          obtain ⟨hl4, hdl, hel, hnil⟩ := HB.out
          rw [EM.out] at n6 cap6 nil6
          have HWR : Hid _ := HST.out.1.write k6 (t := 3) ⟨by decide, by decide, by decide⟩ (by unfold Wt; decide) hB1 b6 n6 cap6 nil6 sp6 (by omega) (by omega)
          rw [← EM.out] at HWR
          clear b6 n6 cap6 nil6 sp6 k6 HCL hl4 hdl hel hnil
          go_wp2_with fail
          refine Calls.mono HWR.out ?_
          rintro x7 w7 ⟨rfl, o7, st7, bk7⟩
          have S7 : Hid _ := (⟨st7, bk7⟩ : _ ∧ _)
          have HSZ : Hid _ := bk7.size
          have esz : ((D ++ l).length : Nat) = dl + m := by rw [List.length_append, ← EDL.out, ← EM.out]
          rw [esz] at HSZ
          have hw1 : IntKind.i64.wrap ((dl : Int) + (m : Int)) = (dl : Int) + (m : Int) := by
            have := HB.out.2.1
            have := EDL.out
            have := EM.out
            rw [IntKind.wrap_i64]
            omega
          clear st7 bk7 HWR esz
          go_wp2_with fail
          refine Calls.mono HSZ.out ?_
          rintro x8 w7' ⟨rfl, e7⟩
          subst w7'
          have HAP : Hid (∀ ty, ∃ v' w', (Builtin.append_ #[22, 22] ty #[.slice aa dl ac, .slice x m cx]).run Try.prog w7 = .ok v' w' ∧ ∃ dl2, dl2 = dl + m ∧ (∃ a2 c2, v' = .slice a2 dl2 c2) ∧ ∃ o', Bk o' w0 B p sp 3 4 wb vb w' (D ++ l) e ∧ Rw9 9 o' w0.heap.size w' v' (D ++ l) ∧ Rw9 10 o' w0.heap.size w' (.slice ta el tc) e) := fun ty => by
            obtain ⟨bk, ra, rt, hby⟩ := HST.out
            obtain ⟨st7, bk7⟩ := S7.out
            obtain ⟨hl4, hdl, hel, hnil⟩ := HB.out
            have n9 : ¬ Wt 3 9 := by unfold Wt; decide
            have n10 : ¬ Wt 3 10 := by unfold Wt; decide
            have hb7 : BytesAt w7 x l := by
              obtain ⟨b2, off2, x2, cx2, e2, hb2, cl2, hby2, -, -⟩ := (PcsAt.on HP.out (K1.out.trans' bk7.kept)) q l HLQ.out
              obtain ⟨b3, off3, x3, cx3, e3, hb3, cl3, hby3, -, -⟩ := (PcsAt.on HP.out (K1.out.trans' bk.kept)) q l HLQ.out
              obtain ⟨b4, off4, x4, cx4, e4, hb4, cl4, hby4, -, -⟩ := HP.out q l HLQ.out
              simp only [Option.some.injEq, Addr.mk.injEq, and_true] at e2 e3 e4
              obtain ⟨rfl, rfl⟩ := e4
              have q1 := ((K1.out.trans' bk.kept).cell (p := ⟨bb, off + q, none⟩) hb4 (fun e => e)).trans cl4
              have q2 := q1.symm.trans CL.out
              simp only [Option.some.injEq, Value.slice.injEq] at q2
              obtain ⟨rfl, -, -⟩ := q2
              exact hby4.kept (K1.out.trans' bk7.kept) (fun _ _ h => h)
            obtain ⟨v', w', r1, o8, st8, r8⟩ := (ra.on st7 n9).app (c := cx) hb7 hnil (by omega) bk7.kept.size ty
            obtain ⟨a2, c2, e2, -⟩ := BytesAt.of_row r8.1
            rw [← EM.out, ← EDL.out] at r1
            refine ⟨v', w', r1, dl + m, rfl, ⟨a2, c2, by rw [e2, List.length_append, ← EDL.out, ← EM.out]⟩, o8, bk7.far st8 (by decide), r8, ?_⟩
            have := (rt.on st7 n10).on st8 (by decide)
            rw [← EEL.out] at this
            exact this
          clear HSZ
          go_wp2_with (at_builtin; apply Hid.out)
          refine wpList_app rfl (.tmp 122) (.tmp 123) 22 rfl (.slice aa dl ac) (.slice x m cx) rfl rfl _ HAP.out ?_
          rintro v8 w8 ⟨dl2, edl2, ⟨a8, c8, rfl⟩, o8, bk8, r8, t8⟩
          have S8 : Hid _ := (⟨bk8, r8, t8⟩ : _ ∧ _ ∧ _)
          clear bk8 r8 t8 HAP S7 HST edl2
          rcases Nat.mod_two_eq_zero_or_one q with hp | hp
          · have hpm : Int.tmod (q : Int) 2 = 0 := by rw [Int.tmod_eq_emod_of_nonneg (by omega)]; omega
            clear hp
            have ho8 : BytesAt w8 oa o := HO.out.data.kept (K1.out.trans' S8.out.1.kept) (fun _ _ h => h)
            have HCO : Hid (∀ g, g = w8.heap.size → ∀ ty, _) := fun g (hg : g = w8.heap.size) ty => by
              have := clone8 (c := c) ho8 HO.out.nil (by have := HO.out.le; omega) ty
              rw [← hg, ← EO.out] at this
              exact this
            clear ho8
            go_wp2_with (at_builtin; apply Hid.out)
            refine wpList_app rfl (.tmp 129) (.tmp 130) 22 rfl (.slice (some ⟨_, 0, none⟩) 0 0) (.slice oa ol c) rfl rfl _ (HCO.out _ (by first | rfl | simp)) ?_
            rintro v9 w9 ⟨a9, c9, rfl, b9, n9, cap9, nil9, sp9, k9⟩
            rw [EO.out] at n9 cap9 nil9
            have hlim : (D ++ l).length + e.length ≤ 48000 := by
              have := HB.out.2.1
              have := HB.out.2.2.1
              rw [List.length_append]
              omega
            have HWV : Hid _ := (S8.out.1.swap).write k9 (t := 4) ⟨by decide, by decide, by decide⟩ (by unfold Wt; decide) hB1 b9 n9 cap9 nil9 sp9 (by have := EO.out; omega) (by omega)
            rw [← EO.out] at HWV
            clear b9 n9 cap9 nil9 sp9 k9 HCO hlim
            go_wp2_with fail
            refine Calls.mono HWV.out ?_
            rintro x9 w10 ⟨rfl, o10, st10, bk10⟩
            have S10 : Hid _ := (⟨st10, bk10.swap⟩ : _ ∧ _)
            have HAT : Hid (∀ ty, ∃ v' w', (Builtin.append_ #[22, 22] ty #[.slice ta el tc, .slice oa ol c]).run Try.prog w10 = .ok v' w' ∧ ∃ EL, EL = el + ol ∧ (∃ a2 c2, v' = .slice a2 EL c2) ∧ ∃ o', Bk o' w0 B p sp 3 4 wb vb w' (D ++ l) (e ++ o) ∧ Rw9 9 o' w0.heap.size w' (.slice a8 dl2 c8) (D ++ l) ∧ Rw9 10 o' w0.heap.size w' v' (e ++ o)) := fun ty => by
              obtain ⟨bk8, r8, t8⟩ := S8.out
              obtain ⟨st10, bk10⟩ := S10.out
              have n9 : ¬ Wt 4 9 := by unfold Wt; decide
              have n10 : ¬ Wt 4 10 := by unfold Wt; decide
              have ho10 : BytesAt w10 oa o := HO.out.data.kept (K1.out.trans' bk10.kept) (fun _ _ h => h)
              obtain ⟨v', w', r1, o11, st11, r11⟩ := (t8.on st10 n10).app (c := c) ho10 HO.out.nil (by have := HB.out.2.2.1; have := EO.out; omega) bk10.kept.size ty
              obtain ⟨a2, c2, e2, -⟩ := BytesAt.of_row r11.1
              rw [← EO.out] at r1
              exact ⟨v', w', r1, el + ol, rfl, ⟨a2, c2, by rw [e2, List.length_append, ← EEL.out, ← EO.out]⟩, o11, bk10.far st11 (by decide), (r8.on st10 n9).on st11 (by decide), r11⟩
            clear st10 bk10 HWV
            go_wp2_with (at_builtin; apply Hid.out)
            refine wpList_app rfl (.tmp 134) (.tmp 135) 22 rfl (.slice ta el tc) (.slice oa ol c) rfl rfl _ HAT.out ?_
            rintro v11 w11 ⟨EL, eEL, ⟨a11, c11, rfl⟩, o11, bk11, r11, t11⟩
            have S11 : Hid _ := (⟨bk11, r11, t11⟩ : _ ∧ _ ∧ _)
            have HEL : Hid _ := eEL
            clear bk11 r11 t11 HAT S10 S8 eEL
            by_cases hE : 20000 < EL
            · have g10 : (20000 : Int) < (EL : Int) := by omega
              have KF : Hid _ := K1.out.trans' S11.out.1.kept
              go_wp2_with fail
              go_ret
              exact ⟨rfl, KF.out⟩
            · have g10 : ¬ (20000 : Int) < (EL : Int) := by omega
              go_wp2_with fail
              go_roundw
              case rel => exact ⟨q + 1, ⟨o11, e ++ o, by rw [HTK.out]; exact S11.out.1, by rw [HTK.out]; exact S11.out.2.1, S11.out.2.2, by rw [List.length_append, ← EEL.out, ← EO.out, ← HEL.out]; omega⟩, HQ.out, by rw [Int.natCast_add]; rfl⟩
              case measure => simp only [intOf]; omega
          · have hpm : Int.tmod (q : Int) 2 = 1 := by rw [Int.tmod_eq_emod_of_nonneg (by omega)]; omega
            clear hp
            obtain ⟨EL, eEL⟩ : ∃ EL, EL = el := ⟨_, rfl⟩
            have hEL : el ≤ 20000 := by rw [EEL.out]; exact HB.out.2.2.1
            have g10 : ¬ (20000 : Int) < (el : Int) := by omega
            have g11 : ¬ 20000 < el := by omega
            clear eEL
            go_wp2_with fail
            go_roundw
            case rel => exact ⟨q + 1, ⟨o8, e, by rw [HTK.out]; exact S8.out.1, by rw [HTK.out]; exact S8.out.2.1, S8.out.2.2, by rw [← EEL.out]; exact hEL⟩, HQ.out, by rw [Int.natCast_add]; rfl⟩
            case measure => simp only [intOf]; omega
        · obtain rfl : n = q := by omega
          have e1 : decide ((n : Int) < (n : Int)) = false := by simp
          have etk : P.take n = P := by rw [EN.out, List.take_length]
          rw [etk] at bk ra ⊢
          have hs : P.flatten.length + e.length ≤ 48000 := by have := HT.out.1; omega
          obtain ⟨D, eD⟩ : ∃ D, D = P.flatten := ⟨_, rfl⟩
          rw [← eD] at bk ra hs ⊢
          have HCL1 : Hid _ := bk.close (t := 3) ⟨by decide, by decide, by decide⟩ (by unfold Wt; decide) hs
          have HRA : Hid _ := (⟨ra, rt⟩ : _ ∧ _)
          obtain ⟨dl, edl⟩ : ∃ dl, dl = D.length := ⟨_, rfl⟩
          obtain ⟨el, eel⟩ : ∃ el, el = e.length := ⟨_, rfl⟩
          rw [← edl, ← eel]
          rw [← edl] at HCL1
          have EDL : Hid _ := edl
          have EEL : Hid _ := eel
          have HS : Hid _ := hs
          have hdl : dl ≤ 48000 := by omega
          have hel2 : el ≤ 48000 := by omega
          unfold fileV at HCL1
          clear bk ra rt etk eD edl eel hs hq hlt hel
          go_wp2_with fail
          refine Calls.mono HCL1.out ?_
          rintro x6 w6 ⟨a1, n1, c1, rfl, o6, st6, bc6⟩
          obtain ⟨bx6, sx6⟩ := Bx8.new o6 w6 (.cells #[.slice a1 n1 c1, .int .i64 (dl : Int)] 60)
          have HCL2 : Hid _ := (bc6.step sx6).close (t' := 4) ⟨by decide, by decide, by decide⟩ (by unfold Wt; decide) HS.out
          have R6 : Hid _ := (⟨(HRA.out.1.on st6 (by unfold Wt; decide)).on sx6 (fun h => h), (HRA.out.2.on st6 (by unfold Wt; decide)).on sx6 (fun h => h), bx6⟩ : _ ∧ _ ∧ _)
          rw [← EEL.out] at HCL2
          unfold fileV at HCL2
          clear st6 bc6 bx6 sx6 HCL1 HRA
          go_wp2_with fail
          refine Calls.mono HCL2.out ?_
          rintro x7 w7 ⟨a2, n2, c2, rfl, o7, st7, bd7⟩
          obtain ⟨bx7, sx7⟩ := Bx8.new o7 w7 (.cells #[.slice a2 n2 c2, .int .i64 (el : Int)] 60)
          obtain ⟨W8, eW8⟩ : ∃ W8, W8 = w7.alloc (.cells #[.slice a2 n2 c2, .int .i64 (el : Int)] 60) := ⟨_, rfl⟩
          rw [← eW8] at bx7 sx7
          have bd8 := bd7.step sx7
          obtain ⟨f1, f2, f3⟩ := bd8.facts
          have R8 : Hid _ := (⟨(R6.out.1.on st7 (by unfold Wt; decide)).on sx7 (fun h => h), (R6.out.2.1.on st7 (by unfold Wt; decide)).on sx7 (fun h => h), (R6.out.2.2.on st7 (by unfold Wt; decide)).on sx7 (fun h => h), bx7⟩ : _ ∧ _ ∧ _ ∧ _)
          have B8 : Hid _ := bd8
          have FF : Hid _ := (⟨f1, f2, f3⟩ : _ ∧ _ ∧ _)
          clear f1 f2 f3
          clear st7 bd7 bx7 sx7 bd8 HCL2 R6
          go_wp2_with fail
          rw [← eW8]
          clear eW8
          generalize w7.heap.size = h7 at *
          generalize w6.heap.size = h6 at *
          obtain ⟨-, -, ⟨ob6, -⟩, ⟨ob7, -⟩⟩ := R8.out
          have y60 : W8.cell? ⟨h6, 0, none⟩ = some (.slice a1 n1 c1) := (cell_of ob6 0).trans rfl
          have y61 : W8.cell? ⟨h6, 1, none⟩ = some (.int .i64 (dl : Int)) := (cell_of ob6 1).trans rfl
          have y70 : W8.cell? ⟨h7, 0, none⟩ = some (.slice a2 n2 c2) := (cell_of ob7 0).trans rfl
          have y71 : W8.cell? ⟨h7, 1, none⟩ = some (.int .i64 (el : Int)) := (cell_of ob7 1).trans rfl
          have l6 := lt_of_heap ob6
          have l7 := lt_of_heap ob7
          clear ob6 ob7
          obtain ⟨f1, f2, f3⟩ := FF.out
          rw [← EDL.out] at f1
          rw [← EEL.out] at f2
          have v1 : IntKind.i64.wrap ((dl : Int) + (B : Int)) = (dl : Int) + (B : Int) := by rw [IntKind.wrap_i64]; omega
          have v2 : IntKind.i64.wrap ((dl : Int) + (B : Int) - 1) = (dl : Int) + (B : Int) - 1 := by rw [IntKind.wrap_i64]; omega
          have v3 : Int.tdiv ((dl : Int) + (B : Int) - 1) (B : Int) = (n1 : Int) := by
            rw [show (dl : Int) + (B : Int) - 1 = ((dl + B - 1 : Nat) : Int) by omega, ← Int.ofNat_tdiv, f1]
            rfl
          have v4 : IntKind.i64.wrap (n1 : Int) = (n1 : Int) := by rw [IntKind.wrap_i64]; omega
          have v5 : IntKind.i64.wrap ((el : Int) + (B : Int)) = (el : Int) + (B : Int) := by rw [IntKind.wrap_i64]; omega
          have v6 : IntKind.i64.wrap ((el : Int) + (B : Int) - 1) = (el : Int) + (B : Int) - 1 := by rw [IntKind.wrap_i64]; omega
          have v7 : Int.tdiv ((el : Int) + (B : Int) - 1) (B : Int) = (n2 : Int) := by
            rw [show (el : Int) + (B : Int) - 1 = ((el + B - 1 : Nat) : Int) by omega, ← Int.ofNat_tdiv, f2]
            rfl
          have v8 : IntKind.i64.wrap (n2 : Int) = (n2 : Int) := by rw [IntKind.wrap_i64]; omega
          have v9 : (B : Int) ≠ 0 := by omega
          have v10 : ¬ B = 0 := by omega
          clear f1 f2
          go_quiet (fail)
          go_wp2_with fail
          have HT38 : Hid (∀ W, Kept W8 W → Kept W8 W ∧ W.cell? ⟨h6, 0, none⟩ = some (.slice a1 n1 c1) ∧ W.cell? ⟨h7, 0, none⟩ = some (.slice a2 n2 c2)) := fun W k => ⟨k, (k.cell (p := ⟨h6, 0, none⟩) l6 (fun e => e)).trans y60, (k.cell (p := ⟨h7, 0, none⟩) l7 (fun e => e)).trans y70⟩
          have HCN0 : Hid (∃ cT : Nat, ∀ W, Kept W8 W → Calls Try.prog 19 #[.pointer (some ⟨p.db, 0, none⟩)] W fun x w' => x = .returned (.agg #[.int .i64 0, .int .i64 0, .int .i64 ((n1 : Int) + (n2 : Int)), .int .i64 cT]) ∧ Kept W8 w') := by
            obtain ⟨m, u, L, zs, L', zs', ⟨q1, q2⟩, q3, q4, q5, q6, q7, q8, q9, ⟨r1, r2, r3, r4, r5⟩, q10, q11, q12, q13, q14⟩ := B8.out
            refine ⟨m.cT, fun W k => Calls.mono (counts_any (q3.dv.kept0 k)) fun x w' ⟨s1, s2⟩ => ⟨?_, k.trans' s2⟩⟩
            rw [s1, r4, r5, q12, q1, q2, Int.natCast_add]
            rfl
          obtain ⟨cT, hcn⟩ := HCN0.out
          have HCN : Hid _ := hcn
          have HLF : Hid (∀ W, Kept W8 W → Calls Try.prog 26 #[.pointer (some ⟨sp, 0, none⟩)] W fun x w' => x = .returned (.int .i64 (4096 - (n1 : Int) - (n2 : Int))) ∧ Kept W8 w') := fun W k => Calls.mono (Bd.left (Bd.on B8.out k)) fun x w' ⟨s1, s2⟩ => ⟨by rw [s1, show ((4096 - n1 - n2 : Nat) : Int) = 4096 - (n1 : Int) - (n2 : Int) by omega], k.trans' s2⟩
          have hfld2 : ∀ W : World, (Instr.field 49 (.agg #[.int .i64 0, .int .i64 0, .int .i64 ((n1 : Int) + (n2 : Int)), .int .i64 (cT : Int)]) 2).run Try.prog W = .ok (.int .i64 ((n1 : Int) + (n2 : Int))) W := fun W => field_cnt2 _ _ _ _ W
          have x1 : IntKind.i64.wrap ((n1 : Int) + (n2 : Int)) = (n1 : Int) + (n2 : Int) := by rw [IntKind.wrap_i64]; omega
          have x2 : IntKind.i64.wrap (4096 - (n1 : Int)) = 4096 - (n1 : Int) := by rw [IntKind.wrap_i64]; omega
          have x3 : IntKind.i64.wrap (4096 - (n1 : Int) - (n2 : Int)) = 4096 - (n1 : Int) - (n2 : Int) := by rw [IntKind.wrap_i64]; omega
          have F3 : Hid _ := f3
          have YY : Hid _ := (⟨y60, y61, y70, y71, l6, l7⟩ : _ ∧ _ ∧ _ ∧ _ ∧ _ ∧ _)
          clear hcn HCN0 v1 v2 v3 v4 v5 v6 v7 v8 v9 v10 y61 y71 y60 y70 f3 l6 l7
          go_region_held3 (fun W => Kept W8 W ∧ W.cell? ⟨h6, 0, none⟩ = some (.slice a1 n1 c1) ∧ W.cell? ⟨h7, 0, none⟩ = some (.slice a2 n2 c2))
            (exact HT38.out _ (by (repeat (first | assumption | exact Same.refl _ _ | apply Same.alloc | apply Same.drew | apply Same.drewN)); done))
            (first
            | (go_at_call 19; refine Calls.mono (HCN.out _ (by (repeat (first | assumption | exact Same.refl _ _ | apply Same.alloc | apply Same.drew | apply Same.drewN)); done)) ?_; rintro e9 w9 ⟨rfl, k9⟩)
            | (go_at_call 26; refine Calls.mono (HLF.out _ (by (repeat (first | assumption | exact Same.refl _ _ | apply Same.alloc | apply Same.drew | apply Same.drewN)); done)) ?_; rintro e10 w10 ⟨rfl, k10⟩))
          all_goals
            have K10 : Hid _ := k10
            clear k9 k10
            obtain ⟨y60, y61, y70, y71, l6, l7⟩ := YY.out
            have z60 := (K10.out.cell (p := ⟨h6, 0, none⟩) l6 (fun e => e)).trans y60
            have z61 := (K10.out.cell (p := ⟨h6, 1, none⟩) l6 (fun e => e)).trans y61
            have HOP : Hid _ := Bd.open_ (Bd.on B8.out K10.out) HS.out
            rw [← EDL.out] at HOP
            unfold fileV at HOP
            clear y60 y61 y70 y71 l6 l7 HCN HLF HT38
            go_wp2_with fail
            refine Calls.mono HOP.out ?_
            rintro x11 w11 ⟨rb, o11, rfl, st11, bo11⟩
            have k11 : Kept W8 w11 := K10.out.trans' st11.same
            obtain ⟨y60, y61, y70, y71, l6, l7⟩ := YY.out
            have z70 := (k11.cell (p := ⟨h7, 0, none⟩) l7 (fun e => e)).trans y70
            have z71 := (k11.cell (p := ⟨h7, 1, none⟩) l7 (fun e => e)).trans y71
            have HOP2 : Hid _ := Bo.open_ bo11 HS.out
            rw [← EEL.out] at HOP2
            unfold fileV at HOP2
            have S11 : Hid _ := st11
            clear y60 y61 y70 y71 l6 l7 HOP z60 z61 bo11 st11 k11
            go_wp2_with fail
            refine Calls.mono HOP2.out ?_
            rintro x12 w12 ⟨qb, o12, rfl, st12, be12⟩
            have HRD : Hid _ := Be.read be12 HS.out
            rw [← EDL.out] at HRD
            have S12 : Hid _ := st12
            clear HOP2 z70 z71 be12 st12
            go_wp2_with fail
            refine Calls.mono HRD.out ?_
            rintro x13 w13 ⟨va, vc, o13, rfl, b13, n13, st13, bf13⟩
            have HRD2 : Hid _ := Bf.read bf13 (by have := HS.out; omega)
            rw [← EEL.out] at HRD2
            have S13 : Hid _ := (⟨st13, b13, n13⟩ : _ ∧ _ ∧ _)
            clear HRD bf13 st13 b13 n13
            go_wp2_with fail
            refine Calls.mono HRD2.out ?_
            rintro x14 w14 ⟨va2, vc2, o14, rfl, b14, n14, st14, k14, m14, dv14, cs14, ci14⟩
            obtain ⟨st13, b13, n13⟩ := S13.out
            have st10 : Step (fun _ => False) (tagN w7 0 o7) W8 (tagN w7 0 o7) w10 := ⟨K10.out, fun _ _ => rfl⟩
            obtain ⟨ra8, rt8, bx6, bx7⟩ := R8.out
            have ra14 := ((((ra8.on st10 (fun h => h)).on S11.out (fun h => h)).on S12.out (fun h => h)).on st13 (by decide)).on st14 (by decide)
            have rt14 := ((((rt8.on st10 (fun h => h)).on S11.out (fun h => h)).on S12.out (fun h => h)).on st13 (by decide)).on st14 (by decide)
            have bx614 := ((((bx6.on st10 (fun h => h)).on S11.out (fun h => h)).on S12.out (fun h => h)).on st13 (by decide)).on st14 (by decide)
            have bx714 := ((((bx7.on st10 (fun h => h)).on S11.out (fun h => h)).on S12.out (fun h => h)).on st13 (by decide)).on st14 (by decide)
            have b13' : BytesAt w14 va D := b13.kept st14.same fun j hj => by
              rw [← EDL.out] at hj
              rw [(n13 j hj).2]
              decide
            obtain ⟨aa2, ac2, ea2, ba14, -⟩ := BytesAt.of_row ra14.1
            obtain ⟨ta2, tc2, et2, bt14, -⟩ := BytesAt.of_row rt14.1
            rw [← EDL.out] at ea2
            rw [← EEL.out] at et2
            simp only [Value.slice.injEq, true_and] at ea2 et2
            obtain ⟨rfl, rfl⟩ := ea2
            obtain ⟨rfl, rfl⟩ := et2
            have HSA : Hid (∀ W, Kept w14 W → Calls Try.prog 18 #[.slice va dl vc, .slice aa dl ac] W fun x w' => x = .returned (.bool true) ∧ Kept w14 w') := fun W k => by
              have := same_true W va aa vc ac D (b13'.kept k (fun _ _ h => h)) (ba14.kept k (fun _ _ h => h)) (by have := HS.out; omega)
              rw [← EDL.out] at this
              exact Calls.mono this fun x w' ⟨s1, s2⟩ => ⟨s1, by rw [s2]; exact k⟩
            have HSB : Hid (∀ W, Kept w14 W → Calls Try.prog 18 #[.slice va2 el vc2, .slice ta el tc] W fun x w' => x = .returned (.bool true) ∧ Kept w14 w') := fun W k => by
              have := same_true W va2 ta vc2 tc e (b14.kept k (fun _ _ h => h)) (bt14.kept k (fun _ _ h => h)) (by have := HS.out; omega)
              rw [← EEL.out] at this
              exact Calls.mono this fun x w' ⟨s1, s2⟩ => ⟨s1, by rw [s2]; exact k⟩
            have HCN : Hid (∀ W, Kept w14 W → Calls Try.prog 19 #[.pointer (some ⟨p.db, 0, none⟩)] W fun x w' => x = .returned (.agg #[.int .i64 0, .int .i64 ((n1 : Int) + (n2 : Int)), .int .i64 m14.cW, .int .i64 m14.cT]) ∧ Kept w14 w') := fun W k => Calls.mono (counts_any (dv14.kept0 k)) fun x w' ⟨s1, s2⟩ => ⟨by rw [s1, ci14, cs14, Int.natCast_add]; rfl, k.trans' s2⟩
            have hfld1 : ∀ W : World, (Instr.field 49 (.agg #[.int .i64 0, .int .i64 ((n1 : Int) + (n2 : Int)), .int .i64 (m14.cW : Int), .int .i64 (m14.cT : Int)]) 1).run Try.prog W = .ok (.int .i64 ((n1 : Int) + (n2 : Int))) W := fun W => field_cnt1 _ _ _ _ W
            have y60 : w14.cell? ⟨h6, 0, none⟩ = some (.slice a1 n1 c1) := (cell_of bx614.1 0).trans rfl
            have y70 : w14.cell? ⟨h7, 0, none⟩ = some (.slice a2 n2 c2) := (cell_of bx714.1 0).trans rfl
            have l6 := lt_of_heap bx614.1
            have l7 := lt_of_heap bx714.1
            have HT46 : Hid (∀ W, Kept w14 W → Kept w14 W ∧ W.cell? ⟨h6, 0, none⟩ = some (.slice a1 n1 c1) ∧ W.cell? ⟨h7, 0, none⟩ = some (.slice a2 n2 c2)) := fun W k => ⟨k, (k.cell (p := ⟨h6, 0, none⟩) l6 (fun e => e)).trans y60, (k.cell (p := ⟨h7, 0, none⟩) l7 (fun e => e)).trans y70⟩
            have K14 : Hid (Kept w w14) := K1.out.trans' k14
            clear st13 b13 n13 ra8 rt8 bx6 bx7 ra14 rt14 bx614 bx714 b13' ba14 bt14 b14 n14 st14 st10 k14 dv14 cs14 ci14 HRD2 S11 S12 S13 R8 B8 YY y60 y70 l6 l7 K10
            go_wp2_with fail
            go_region_held3 (fun W => Kept w14 W ∧ W.cell? ⟨h6, 0, none⟩ = some (.slice a1 n1 c1) ∧ W.cell? ⟨h7, 0, none⟩ = some (.slice a2 n2 c2))
              (exact HT46.out _ (by (repeat (first | assumption | exact Same.refl _ _ | apply Same.alloc | apply Same.drew | apply Same.drewN)); done))
              (first
              | (have hh := k15; clear hh; go_at_call 18; refine Calls.mono (HSB.out _ (by (repeat (first | assumption | exact Same.refl _ _ | apply Same.alloc | apply Same.drew | apply Same.drewN)); done)) ?_; rintro e16 w16 ⟨rfl, k16⟩)
              | (go_at_call 18; refine Calls.mono (HSA.out _ (by (repeat (first | assumption | exact Same.refl _ _ | apply Same.alloc | apply Same.drew | apply Same.drewN)); done)) ?_; rintro e15 w15 ⟨rfl, k15⟩)
              | (go_at_call 19; refine Calls.mono (HCN.out _ (by (repeat (first | assumption | exact Same.refl _ _ | apply Same.alloc | apply Same.drew | apply Same.drewN)); done)) ?_; rintro e17 w17 ⟨rfl, k17⟩))
            all_goals
              have KF : Hid (Kept w _) := K14.out.trans' k17
              go_wp2_with fail
              go_ret
              exact ⟨by first | exact rfl | (congr 1; simp), by first | exact KF.out | exact KF.out.drew⟩
end Go.Proofs.Ytemfeaooenaelaa
