/- What is proved: the document's Text of a right outcome; conditions: lengths. -/
import Derived.Test.YtfhaiklfbnfdlaaDoorRpB
import Derived.Test.YtfhaiklfbnfdlaaDoorRoG
import Derived.Deep.DeepCutAuto
namespace Go.Proofs.YtfhaiklfbnfdlaaDoor
open Go.RowKit

/-- The outcome's text as the document writes it. -/
def outR (o : OuM) : List UInt8 := headB ++ oWord o.kd ++ (if hc o.kd = true then numL [10, 99, 111, 100, 101, 32] o.cd else []) ++ (if ho o.kd = true then numL [10, 111, 102, 102, 115, 101, 116, 32] o.of else []) ++ (if ht o.kd = true then numL [10, 116, 120, 110, 115, 32] o.tn else []) ++ (if hl o.kd = true then numL [10, 116, 111, 116, 97, 108, 32] o.tt ++ numL [10, 115, 104, 111, 119, 110, 32] (o.ls.length : Int) else []) ++ [10] ++ o.ls.flatMap vioL ++ footB
theorem outR_eq (o : OuM) : outR o = outL o := by
  unfold outR outL frontL
  cases hc o.kd <;> cases ho o.kd <;> cases ht o.kd <;> cases hl o.kd <;> simp [numL]
theorem numL_le20 {p : List UInt8} {n : Int} (hp : p.length ≤ 20) (h0 : 0 ≤ n) (h1 : n ≤ 1099511627776) : (numL p n).length ≤ 41 := by
  unfold numL
  have := itoa_len21 (i := n) (by omega) (by omega)
  rw [List.length_append]
  omega
set_option maxRecDepth 100000 in
set_option maxHeartbeats 6400000 in
theorem rtext22 (w : World) (o : OuM) (a : Option Addr) (cap : Nat) (hx : okO o = true) (hat0 : Vi.At Vi.vl1 12 w a o.ls) :
    Calls Tryd.prog 15 #[ouV o (.slice a o.ls.length cap)] w fun e w' => ∃ v', e = .returned v' ∧ ApO w.heap.size w (nu (outL o)) v' w' := by
  rw [← outR_eq]
  obtain ⟨r0, r1, r2, r3, r4, r5, r6, r7, -⟩ := okO_iff hx
  have hat : ∀ W, Oth w.heap.size w W → Vi.At Vi.vl1 12 W a o.ls := fun W k => at_oth hat0 (Nat.le_refl _) k
  obtain ⟨kd, cd, off, tn, tt, ls⟩ := o
  unfold ouV outR
  dsimp only at r0 r1 r2 r3 r4 r5 r6 r7 hat ⊢
  have HK : Hid (∀ W, _) := fun W => rkind_any kd W
  have HTX : Hid (∀ W v ys (p : List UInt8), OwnB w.heap.size W v ys → Oth w.heap.size w W → ys.length + p.length ≤ 140737488355328 → Calls Tryd.prog 31 #[v, tx p] W fun e w' => ∃ v', e = .returned v' ∧ ApO w.heap.size W (ys ++ nu p) v' w') := fun W v ys p o k hy => rptext p o hy k.1.size
  have HLN : Hid (∀ W v ys (p : List UInt8) (i : Int), OwnB w.heap.size W v ys → Oth w.heap.size w W → p.length ≤ 20 → (0 ≤ i ∧ i ≤ 1099511627776) → ys.length + 64 ≤ 140737488355328 → Calls Tryd.prog 32 #[v, tx p, .int .i64 i] W fun e w' => ∃ v', e = .returned v' ∧ ApO w.heap.size W (ys ++ nu (numL p i)) v' w') := fun W v ys p i o k hp hi hy => by
    rw [← plc_num hi.1]
    exact rpnumber p i (by omega) (by omega) o hp hy k.1.size
  have HVI : Hid (∀ W v ys (x : Vi.Vl), x ∈ ls → OwnB w.heap.size W v ys → Oth w.heap.size w W → ys.length + 2048 ≤ 140737488355328 → Calls Tryd.prog 33 #[v, Vi.vlV x] W fun e w' => ∃ v', e = .returned v' ∧ ApO w.heap.size W (ys ++ nu (vioL x)) v' w') := fun W v ys x hx o k hy => rpline x (r7 x hx) o hy k.1.size
  have HNL : Hid (∀ (p : List UInt8) (i : Int), p.length ≤ 20 → (0 ≤ i ∧ i ≤ 1099511627776) → (numL p i).length ≤ 41) := fun p i hp hi => numL_le20 hp hi.1 hi.2
  have HOW : Hid ((oWord kd).length ≤ 9) := oWord_le kd
  have HVL : Hid (∀ j, ((ls.take j).flatMap vioL).length ≤ 6400000) := fun j => by
    have h1 := vios_le (l := ls.take j) (fun x hx => r7 x (List.mem_of_mem_take hx))
    have h2 : (ls.take j).length ≤ 10000 := by rw [List.length_take]; omega
    omega
  have HR : Hid ((0 ≤ cd ∧ cd ≤ 1099511627776) ∧ (0 ≤ off ∧ off ≤ 1099511627776) ∧ (0 ≤ tn ∧ tn ≤ 1099511627776) ∧ (0 ≤ tt ∧ tt ≤ 1099511627776) ∧ (0 ≤ (ls.length : Int) ∧ (ls.length : Int) ≤ 1099511627776) ∧ ls.length ≤ 10000) := ⟨by omega, by omega, by omega, by omega, by omega, r6⟩
  have HAT : Hid (∀ W, Oth w.heap.size w W → Vi.At Vi.vl1 12 W a ls) := hat
  have HQ : Hid (hc kd = decide (kd ≤ 3) ∧ ho kd = (kd == 2) ∧ ht kd = decide (8 ≤ kd) ∧ hl kd = (kd == 9)) := by
    have : kd = 1 ∨ kd = 2 ∨ kd = 3 ∨ kd = 4 ∨ kd = 5 ∨ kd = 6 ∨ kd = 7 ∨ kd = 8 ∨ kd = 9 := by omega
    rcases this with rfl | rfl | rfl | rfl | rfl | rfl | rfl | rfl | rfl <;> exact ⟨by decide, by decide, by decide, by decide⟩
  obtain ⟨n, en⟩ : ∃ n, n = ls.length := ⟨_, rfl⟩
  rw [← en] at HR ⊢
  have EN : Hid (n = ls.length) := en
  have hni : (n : Int) ≤ 10000 := by omega
  have A0 : Hid (Ao w.heap.size w (w.alloc (ouO (.int .i64 kd) (.int .i64 cd) (.int .i64 off) (.int .i64 tn) (.int .i64 tt) (.slice a n cap))) (.slice none 0 0) [] (ouO (.int .i64 kd) (.int .i64 cd) (.int .i64 off) (.int .i64 tn) (.int .i64 tt) (.slice a n cap))) := ⟨OwnB.nil _ _, Oth.kept ((Same.refl _ w).alloc _), heap_new w _⟩
  have hnt : (25 : Nat) ≠ 5 := by decide
  clear hx hat hat0 r0 r1 r2 r3 r4 r5 r6 r7 en
  generalize hcw : oWord kd = OW at *
  obtain ⟨bC, hbC⟩ : ∃ bC, bC = hc kd := ⟨_, rfl⟩
  obtain ⟨bO, hbO⟩ : ∃ bO, bO = ho kd := ⟨_, rfl⟩
  obtain ⟨bT, hbT⟩ : ∃ bT, bT = ht kd := ⟨_, rfl⟩
  obtain ⟨bL, hbL⟩ : ∃ bL, bL = hl kd := ⟨_, rfl⟩
  rw [← hbC, ← hbO, ← hbT, ← hbL] at HQ ⊢
  clear hbC hbO hbT hbL hcw
  obtain ⟨PC, ePC⟩ : ∃ PC, PC = if bC = true then numL [10, 99, 111, 100, 101, 32] cd else [] := ⟨_, rfl⟩
  obtain ⟨PO, ePO⟩ : ∃ PO, PO = if bO = true then numL [10, 111, 102, 102, 115, 101, 116, 32] off else [] := ⟨_, rfl⟩
  obtain ⟨PT, ePT⟩ : ∃ PT, PT = if bT = true then numL [10, 116, 120, 110, 115, 32] tn else [] := ⟨_, rfl⟩
  obtain ⟨PL, ePL⟩ : ∃ PL, PL = if bL = true then numL [10, 116, 111, 116, 97, 108, 32] tt ++ numL [10, 115, 104, 111, 119, 110, 32] (n : Int) else [] := ⟨_, rfl⟩
  rw [← ePC, ← ePO, ← ePT, ← ePL]
  have HPC : Hid (PC = if bC = true then numL [10, 99, 111, 100, 101, 32] cd else []) := ePC
  have HPO : Hid (PO = if bO = true then numL [10, 111, 102, 102, 115, 101, 116, 32] off else []) := ePO
  have HPT : Hid (PT = if bT = true then numL [10, 116, 120, 110, 115, 32] tn else []) := ePT
  have HPL : Hid (PL = if bL = true then numL [10, 116, 111, 116, 97, 108, 32] tt ++ numL [10, 115, 104, 111, 119, 110, 32] (n : Int) else []) := ePL
  have LP : Hid (PC.length ≤ 64 ∧ PO.length ≤ 64 ∧ PT.length ≤ 64 ∧ PL.length ≤ 128 ∧ OW.length ≤ 9) := by
    have h1 := HNL.out [10, 99, 111, 100, 101, 32] cd (by decide) HR.out.1
    have h2 := HNL.out [10, 111, 102, 102, 115, 101, 116, 32] off (by decide) HR.out.2.1
    have h3 := HNL.out [10, 116, 120, 110, 115, 32] tn (by decide) HR.out.2.2.1
    have h4 := HNL.out [10, 116, 111, 116, 97, 108, 32] tt (by decide) HR.out.2.2.2.1
    have h5 := HNL.out [10, 115, 104, 111, 119, 110, 32] (n : Int) (by decide) HR.out.2.2.2.2.1
    refine ⟨?_, ?_, ?_, ?_, HOW.out⟩
    · rw [ePC]; split <;> (try simp only [List.length_nil]) <;> omega
    · rw [ePO]; split <;> (try simp only [List.length_nil]) <;> omega
    · rw [ePT]; split <;> (try simp only [List.length_nil]) <;> omega
    · rw [ePL]; split <;> (try simp only [List.length_append, List.length_nil]) <;> omega
  clear ePC ePO ePT ePL
  have LB : Hid (headB.length ≤ 20 ∧ footB.length ≤ 20) := ⟨by decide, by decide⟩
  go_enter Tryd.func15, Tryd.ntmps15
  go_wp2_with fail
  refine Calls.mono (HTX.out _ _ _ headB A0.out.own A0.out.oth (by decide)) ?_
  rintro e w1 ⟨v1, rfl, a9⟩
  have A1 : Hid _ := A0.out.go hnt a9
  clear a9 A0
  obtain ⟨d0, d1, d2, d3, d4, d5⟩ := ou_obj A1.out.box
  have ld := lt_of_heap A1.out.box
  go_wp2_with fail
  refine Calls.mono (HK.out _) ?_
  rintro e w2 ⟨rfl, k2⟩
  have A2 : Hid _ := A1.out.kept k2
  clear k2 A1 d0 d1 d2 d3 d4 d5 ld
  go_wp2_with fail
  refine Calls.mono (HTX.out _ _ _ OW A2.out.own A2.out.oth (by simp only [List.length_append, nu_len, List.length_nil]; have := LB.out; have := LP.out; omega)) ?_
  rintro e w3 ⟨v3, rfl, a9⟩
  have A4 : Hid (Ao w.heap.size w w3 v3 ([] ++ nu headB ++ nu OW) (.cells #[.int .i64 kd, .int .i64 cd, .int .i64 off, .int .i64 tn, .int .i64 tt, .slice a n cap] 25 (0, 0))) := A2.out.go hnt a9
  clear a9 A2
  obtain ⟨d0, d1, d2, d3, d4, d5⟩ := ou_obj A4.out.box
  have ld := lt_of_heap A4.out.box
  go_upto_if 13 with fail
  go_cut [3] (fun s0 wx => Ao w.heap.size w wx s0 ([] ++ nu headB ++ nu OW ++ nu PC) (.cells #[.int .i64 kd, .int .i64 cd, .int .i64 off, .int .i64 tn, .int .i64 tt, .slice a n cap] 25 (0, 0)))
  case first =>
    have hq := HQ.out.1.symm
    cases bC with
    | false =>
      have hqp : ¬ kd ≤ 3 := of_decide_eq_false hq
      have e0 : PC = [] := HPC.out
      go_wp2_with fail
      go_meet
      rw [e0]
      have h9 := A4.out
      simp only [nu, List.map_nil, List.append_nil, List.nil_append] at h9 ⊢
      exact h9
    | true =>
      have hqp : kd ≤ 3 := of_decide_eq_true hq
      have e0 : PC = _ := HPC.out
      go_wp2_with fail
      refine Calls.mono (HLN.out _ _ _ [10, 99, 111, 100, 101, 32] cd A4.out.own A4.out.oth (by decide) HR.out.1 (by simp only [List.length_append, nu_len, List.length_nil]; have := LB.out; have := LP.out; omega)) ?_
      rintro e wy ⟨vy, rfl, a9⟩
      have B0 : Hid _ := A4.out.go hnt a9
      clear a9
      go_wp2_with fail
      go_meet
      rw [e0]
      have h9 := B0.out
      simp only [if_true, List.append_assoc] at h9 ⊢
      exact h9
  case rest =>
    have A4' : Hid (Ao w.heap.size w wc u3 ([] ++ nu headB ++ nu OW ++ nu PC) (.cells #[.int .i64 kd, .int .i64 cd, .int .i64 off, .int .i64 tn, .int .i64 tt, .slice a n cap] 25 (0, 0))) := hcut
    clear hcut A4 d0 d1 d2 d3 d4 d5 ld
    obtain ⟨d0, d1, d2, d3, d4, d5⟩ := ou_obj A4'.out.box
    have ld := lt_of_heap A4'.out.box
    have A4 : Hid (Ao w.heap.size w wc u3 ([] ++ nu headB ++ nu OW ++ nu PC) (.cells #[.int .i64 kd, .int .i64 cd, .int .i64 off, .int .i64 tn, .int .i64 tt, .slice a n cap] 25 (0, 0))) := A4'.out
    clear A4'
    go_upto_if 20 with fail
    go_cut [3] (fun s0 wx => Ao w.heap.size w wx s0 ([] ++ nu headB ++ nu OW ++ nu PC ++ nu PO) (.cells #[.int .i64 kd, .int .i64 cd, .int .i64 off, .int .i64 tn, .int .i64 tt, .slice a n cap] 25 (0, 0)))
    case first =>
      have hq := HQ.out.2.1.symm
      cases bO with
      | false =>
        have e0 : PO = [] := HPO.out
        go_wp2_with fail
        go_meet
        rw [e0]
        have h9 := A4.out
        simp only [nu, List.map_nil, List.append_nil, List.nil_append] at h9 ⊢
        exact h9
      | true =>
        have e0 : PO = _ := HPO.out
        go_wp2_with fail
        refine Calls.mono (HLN.out _ _ _ [10, 111, 102, 102, 115, 101, 116, 32] off A4.out.own A4.out.oth (by decide) HR.out.2.1 (by simp only [List.length_append, nu_len, List.length_nil]; have := LB.out; have := LP.out; omega)) ?_
        rintro e wy ⟨vy, rfl, a9⟩
        have B0 : Hid _ := A4.out.go hnt a9
        clear a9
        go_wp2_with fail
        go_meet
        rw [e0]
        have h9 := B0.out
        simp only [if_true, List.append_assoc] at h9 ⊢
        exact h9
    case rest =>
      have A4' : Hid (Ao w.heap.size w wc u3 ([] ++ nu headB ++ nu OW ++ nu PC ++ nu PO) (.cells #[.int .i64 kd, .int .i64 cd, .int .i64 off, .int .i64 tn, .int .i64 tt, .slice a n cap] 25 (0, 0))) := hcut
      clear hcut A4 d0 d1 d2 d3 d4 d5 ld
      obtain ⟨d0, d1, d2, d3, d4, d5⟩ := ou_obj A4'.out.box
      have ld := lt_of_heap A4'.out.box
      have A4 : Hid (Ao w.heap.size w wc u3 ([] ++ nu headB ++ nu OW ++ nu PC ++ nu PO) (.cells #[.int .i64 kd, .int .i64 cd, .int .i64 off, .int .i64 tn, .int .i64 tt, .slice a n cap] 25 (0, 0))) := A4'.out
      clear A4'
      go_upto_if 27 with fail
      go_cut [3] (fun s0 wx => Ao w.heap.size w wx s0 ([] ++ nu headB ++ nu OW ++ nu PC ++ nu PO ++ nu PT) (.cells #[.int .i64 kd, .int .i64 cd, .int .i64 off, .int .i64 tn, .int .i64 tt, .slice a n cap] 25 (0, 0)))
      case first =>
        have hq := HQ.out.2.2.1.symm
        cases bT with
        | false =>
          have hqp : ¬ 8 ≤ kd := of_decide_eq_false hq
          have e0 : PT = [] := HPT.out
          go_wp2_with fail
          go_meet
          rw [e0]
          have h9 := A4.out
          simp only [nu, List.map_nil, List.append_nil, List.nil_append] at h9 ⊢
          exact h9
        | true =>
          have hqp : 8 ≤ kd := of_decide_eq_true hq
          have e0 : PT = _ := HPT.out
          go_wp2_with fail
          refine Calls.mono (HLN.out _ _ _ [10, 116, 120, 110, 115, 32] tn A4.out.own A4.out.oth (by decide) HR.out.2.2.1 (by simp only [List.length_append, nu_len, List.length_nil]; have := LB.out; have := LP.out; omega)) ?_
          rintro e wy ⟨vy, rfl, a9⟩
          have B0 : Hid _ := A4.out.go hnt a9
          clear a9
          go_wp2_with fail
          go_meet
          rw [e0]
          have h9 := B0.out
          simp only [if_true, List.append_assoc] at h9 ⊢
          exact h9
      case rest =>
        have A4' : Hid (Ao w.heap.size w wc u3 ([] ++ nu headB ++ nu OW ++ nu PC ++ nu PO ++ nu PT) (.cells #[.int .i64 kd, .int .i64 cd, .int .i64 off, .int .i64 tn, .int .i64 tt, .slice a n cap] 25 (0, 0))) := hcut
        clear hcut A4 d0 d1 d2 d3 d4 d5 ld
        obtain ⟨d0, d1, d2, d3, d4, d5⟩ := ou_obj A4'.out.box
        have ld := lt_of_heap A4'.out.box
        have A4 : Hid (Ao w.heap.size w wc u3 ([] ++ nu headB ++ nu OW ++ nu PC ++ nu PO ++ nu PT) (.cells #[.int .i64 kd, .int .i64 cd, .int .i64 off, .int .i64 tn, .int .i64 tt, .slice a n cap] 25 (0, 0))) := A4'.out
        clear A4'
        go_upto_if 34 with fail
        go_cut [3] (fun s0 wx => Ao w.heap.size w wx s0 ([] ++ nu headB ++ nu OW ++ nu PC ++ nu PO ++ nu PT ++ nu PL) (.cells #[.int .i64 kd, .int .i64 cd, .int .i64 off, .int .i64 tn, .int .i64 tt, .slice a n cap] 25 (0, 0)))
        case first =>
          have hq := HQ.out.2.2.2.symm
          cases bL with
          | false =>
            have e0 : PL = [] := HPL.out
            go_wp2_with fail
            go_meet
            rw [e0]
            have h9 := A4.out
            simp only [nu, List.map_nil, List.append_nil, List.nil_append] at h9 ⊢
            exact h9
          | true =>
            have e0 : PL = _ := HPL.out
            go_wp2_with fail
            refine Calls.mono (HLN.out _ _ _ [10, 116, 111, 116, 97, 108, 32] tt A4.out.own A4.out.oth (by decide) HR.out.2.2.2.1 (by simp only [List.length_append, nu_len, List.length_nil]; have := LB.out; have := LP.out; omega)) ?_
            rintro e wy ⟨vy, rfl, a9⟩
            have B0 : Hid _ := A4.out.go hnt a9
            clear a9
            clear d0 d1 d2 d3 d4 d5 ld
            obtain ⟨d0, d1, d2, d3, d4, d5⟩ := ou_obj B0.out.box
            have ld := lt_of_heap B0.out.box
            have LB1 : Hid ((numL [10, 116, 111, 116, 97, 108, 32] tt).length ≤ 41) := HNL.out _ _ (by decide) HR.out.2.2.2.1
            go_wp2_with fail
            refine Calls.mono (HLN.out _ _ _ [10, 115, 104, 111, 119, 110, 32] (n : Int) B0.out.own B0.out.oth (by decide) HR.out.2.2.2.2.1 (by simp only [List.length_append, nu_len, List.length_nil]; have := LB.out; have := LP.out; have := LB1.out; omega)) ?_
            rintro e wy ⟨vy, rfl, a9⟩
            have B1 : Hid _ := B0.out.go hnt a9
            clear a9
            go_wp2_with fail
            go_meet
            rw [e0]
            have h9 := B1.out
            simp only [if_true, nu_app, List.append_assoc] at h9 ⊢
            exact h9
        case rest =>
          have A4' : Hid (Ao w.heap.size w wc u3 ([] ++ nu headB ++ nu OW ++ nu PC ++ nu PO ++ nu PT ++ nu PL) (.cells #[.int .i64 kd, .int .i64 cd, .int .i64 off, .int .i64 tn, .int .i64 tt, .slice a n cap] 25 (0, 0))) := hcut
          clear hcut A4 d0 d1 d2 d3 d4 d5 ld
          obtain ⟨d0, d1, d2, d3, d4, d5⟩ := ou_obj A4'.out.box
          have ld := lt_of_heap A4'.out.box
          have A4 : Hid (Ao w.heap.size w wc u3 ([] ++ nu headB ++ nu OW ++ nu PC ++ nu PO ++ nu PT ++ nu PL) (.cells #[.int .i64 kd, .int .i64 cd, .int .i64 off, .int .i64 tn, .int .i64 tt, .slice a n cap] 25 (0, 0))) := A4'.out
          clear A4'
          go_wp2_with (at_builtin; apply Hid.out)
          refine wpList_app rfl (.tmp 44) (.tmp 45) 32 32 rfl _ (.slice (some ⟨_, 0, none⟩) 1 1) rfl rfl _ (app_dash A4.out.own (by simp only [List.length_append, nu_len, List.length_nil]; have := LB.out; have := LP.out; omega) (A4.out.size (Nat.le_refl _)) 10 _ rfl) ?_
          rintro v7 w7 a9
          have A5 : Hid (Ao w.heap.size w w7 v7 ([] ++ nu headB ++ nu OW ++ nu PC ++ nu PO ++ nu PT ++ nu PL ++ nu [10]) (.cells #[.int .i64 kd, .int .i64 cd, .int .i64 off, .int .i64 tn, .int .i64 tt, .slice a n cap] 25 (0, 0))) := A4.out.go hnt a9
          clear a9 A4 d0 d1 d2 d3 d4 d5 ld
          obtain ⟨d0, d1, d2, d3, d4, d5⟩ := ou_obj A5.out.box
          have ld := lt_of_heap A5.out.box
          go_wp2_with fail
          go_loopw [4, 3] (fun v52 v0 wr => ∃ j : Nat, v52 = .int .i64 (j : Int) ∧ j ≤ n ∧ Ao w.heap.size w wr v0 ([] ++ nu headB ++ nu OW ++ nu PC ++ nu PO ++ nu PT ++ nu PL ++ nu [10] ++ nu ((ls.take j).flatMap vioL)) (.cells #[.int .i64 kd, .int .i64 cd, .int .i64 off, .int .i64 tn, .int .i64 tt, .slice a n cap] 25 (0, 0))) (fun v52 _ _ => n - (intOf v52).toNat)
          case atStart =>
            refine ⟨0, rfl, Nat.zero_le _, ?_⟩
            have h9 := A5.out
            simpa [nu] using h9
          case round =>
            clear A5 d0 d1 d2 d3 d4 d5 ld
            obtain ⟨j, rfl, hj, ha⟩ := hrel
            rename World => WL
            have A6 : Hid (Ao w.heap.size w WL _ ([] ++ nu headB ++ nu OW ++ nu PC ++ nu PO ++ nu PT ++ nu PL ++ nu [10] ++ nu ((ls.take j).flatMap vioL)) (.cells #[.int .i64 kd, .int .i64 cd, .int .i64 off, .int .i64 tn, .int .i64 tt, .slice a n cap] 25 (0, 0))) := ha
            clear ha
            obtain ⟨d0, d1, d2, d3, d4, d5⟩ := ou_obj A6.out.box
            have ld := lt_of_heap A6.out.box
            by_cases hjn : j < n
            · have c1 : (j : Int) < (n : Int) := by omega
              have c1d : decide ((j : Int) < (n : Int)) = true := decide_eq_true c1
              obtain ⟨x, hx⟩ : ∃ x, ls[j]? = some x := ⟨_, List.getElem?_eq_getElem (by rw [← show n = _ from EN.out]; exact hjn)⟩
              obtain ⟨b, o, rfl, hb, x0, x1, x2, x3, x4, x5, x6, x7, x8, x9, x10, x11⟩ := Vi.At.vl (HAT.out WL A6.out.oth) hx
              have HX2 : Hid (ls[j]? = some x) := hx
              have HJ : Hid (j < n) := hjn
              have HVX : Hid (∀ W v ys, OwnB w.heap.size W v ys → Oth w.heap.size w W → ys.length + 2048 ≤ 140737488355328 → Calls Tryd.prog 33 #[v, Vi.vlV x] W fun e w' => ∃ v', e = .returned v' ∧ ApO w.heap.size W (ys ++ nu (vioL x)) v' w') := fun W v ys => HVI.out W v ys x (List.mem_of_getElem? hx)
              clear hx hjn hj
              go_wp2_with fail
              refine Calls.mono (HVX.out _ _ _ A6.out.own A6.out.oth (by simp only [List.length_append, nu_len, List.length_cons, List.length_nil]; have := LB.out; have := LP.out; have := HVL.out j; omega)) ?_
              rintro e w8 ⟨v8, rfl, a9⟩
              have A7 : Hid _ := A6.out.go hnt a9
              clear a9 A6 x0 x1 x2 x3 x4 x5 x6 x7 x8 x9 x10 x11 hb
              go_wp2_with fail
              go_roundw
              case rel =>
                refine ⟨j + 1, by simp, HJ.out, ?_⟩
                have h9 := A7.out
                rw [vios_snoc HX2.out, nu_app]
                simp only [List.append_assoc] at h9 ⊢
                exact h9
              case measure => simp only [intOf]; have := HJ.out; omega
            · obtain rfl : j = n := by omega
              have c1 : ¬ (j : Int) < (j : Int) := by omega
              have HEND : Hid (ls.take j = ls) := List.take_of_length_le (by rw [← show j = _ from EN.out]; exact Nat.le_refl _)
              clear hjn hj
              go_wp2_with fail
              refine Calls.mono (HTX.out _ _ _ footB A6.out.own A6.out.oth (by simp only [List.length_append, nu_len, List.length_cons, List.length_nil]; have := LB.out; have := LP.out; have := HVL.out j; omega)) ?_
              rintro e w9 ⟨v9, rfl, a9⟩
              have A9 : Hid _ := A6.out.go hnt a9
              clear a9
              go_wp2_with fail
              go_ret
              refine ⟨v9, rfl, ?_, A9.out.oth⟩
              have h9 := A9.out.own
              rw [HEND.out] at h9
              have e9 : [] ++ nu headB ++ nu OW ++ nu PC ++ nu PO ++ nu PT ++ nu PL ++ nu [10] ++ nu (ls.flatMap vioL) ++ nu footB = nu (headB ++ OW ++ PC ++ PO ++ PT ++ PL ++ [10] ++ ls.flatMap vioL ++ footB) := by simp [nu]
              rw [e9] at h9
              exact h9
end Go.Proofs.YtfhaiklfbnfdlaaDoor
