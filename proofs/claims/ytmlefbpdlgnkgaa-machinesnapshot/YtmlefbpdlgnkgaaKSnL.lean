/- What is proved: the law MachineSnapshot answers true, and all that was there stays as it was; the scripts lie in memory. -/
import Derived.Test.YtmlefbpdlgnkgaaKSnap
namespace Go.Proofs.Ytmlefbpdlgnkgaa
open Go.RowKit

set_option maxRecDepth 100000 in
set_option maxHeartbeats 6400000 in
theorem snap_law {w : World} {a : Option Addr} {l : List Stp} {cap : Nat} (hl : StepsAt w a l) (hs : SmallS l) (hn : l.length ≤ 9223372036854775807) (k : ByteArray) (hk : k.size ≤ maxLen) {a' : Option Addr} {l' : List Stp} {cap' : Nat} (hl' : StepsAt w a' l') (hs' : SmallS l') (hn' : l'.length ≤ 9223372036854775807) :
    Calls Try.prog 6 #[.slice a l.length cap, .string k, .slice a' l'.length cap'] w fun e w' => e = .returned (.bool true) ∧ Kept w w' := by
  have HAN : Hid _ := anchor15 w
  have HPL : Hid (∀ W, Kept w W → Calls Try.prog 24 #[.slice a l.length cap] W fun e w' => ∃ mb, e = .returned (.pointer (some ⟨mb, 0, none⟩)) ∧ MkN W w' mb (plM (newM 4 0) l)) := fun W k' => played15 (hl.on k') hs hn
  have hok0 : Ok 4 (plM (newM 4 0) l) := plM_ok l (Ok.new (by decide) (by decide))
  have hks : (k.size : Int) ≤ 9223372036854775807 := by unfold maxLen at hk; omega
  have HKM : Hid (k.size ≤ maxLen) := hk
  have HL' : Hid (StepsAt w a' l') := hl'
  have HS' : Hid (SmallS l') := hs'
  clear hl hs hn hk hl' hs'
  generalize plM (newM 4 0) l = M0 at *
  generalize l.length = ln at *
  obtain ⟨n, en⟩ : ∃ n, n = l'.length := ⟨_, rfl⟩
  have EN : Hid (n = l'.length) := en
  rw [← en] at hn' ⊢
  clear en
  obtain ⟨q, eq⟩ : ∃ q : Nat, q = n / 2 := ⟨_, rfl⟩
  have hq1 : (n : Int).tdiv 2 = (q : Int) := by rw [eq]; rfl
  have hq2 : (n : Int) / 2 = (q : Int) := by rw [eq]; rfl
  have hqn : q ≤ n := by rw [eq]; exact Nat.div_le_self _ _
  clear eq
  obtain ⟨M', eM'⟩ : ∃ M', freeM M0 = M' := ⟨_, rfl⟩
  obtain ⟨fr, efr⟩ : ∃ fr, freeB M' = fr := ⟨_, rfl⟩
  have hok' : Ok 4 M' := by rw [← eM']; exact hok0.free
  have HFR : Hid (∀ w0 W mb, MkN w0 W mb M0 → Calls Try.prog 25 #[.pointer (some ⟨mb, 0, none⟩)] W fun e w'' => e = .returned (.bool fr) ∧ MkN w0 w'' mb M') := fun w0 W mb h => free15 h hok0 eM' efr
  have HPLN : Hid (fr = true → Sx 4 M' M'.clock M'.A M'.log.length (fun j => (M'.at j).act) ∧ (M'.at 3).act = none ∧ M'.clock < 549755813888 ∧ 0 ≤ M'.clock ∧ M'.log.length < 4000 ∧ (∀ e ∈ M'.A, e.x.c ≤ M'.clock)) := fun h1 => by
    obtain ⟨f1, f2, f3⟩ := freeB_true (efr.trans h1)
    exact ⟨Sx.of hok', f1, f2, hok'.inv.c0, f3, fun e he => (hok'.inv.av e he).2⟩
  clear eM' efr hok0 hok'
  obtain ⟨x, ex⟩ : ∃ x, valM M' k = x := ⟨_, rfl⟩
  have HEX : Hid (valM M' k = x) := ex
  clear ex
  go_enter Try.func6, Try.ntmps6
  go_wp2_with fail
  refine Calls.mono HAN.out ?_
  rintro e w0 ⟨rfl, k0⟩
  have K0 : Hid (Kept w w0) := k0
  clear k0 HAN
  go_wp2_with fail
  refine Calls.mono (HPL.out w0 K0.out) ?_
  rintro e w1 ⟨mb, rfl, m1⟩
  have MA1 : Hid (MkN w w1 mb M0) := MkN.behind K0.out m1
  clear m1 HPL
  go_wp2_with fail
  refine Calls.mono (HFR.out w _ mb MA1.out) ?_
  rintro e w3 ⟨rfl, m3⟩
  have M3 : Hid (MkN w w3 mb M') := m3
  clear m3 HFR MA1
  cases fr with
  | false =>
    go_wp2_with fail
    go_ret
    exact ⟨rfl, MkN.kept M3.out⟩
  | true =>
    obtain ⟨s0, hS3, hc1, hc0, hl4, hav⟩ := HPLN.out (by simp)
    have HSX : Hid _ := And.intro s0 (And.intro hS3 (And.intro hc1 (And.intro hc0 (And.intro hl4 hav))))
    clear s0 hS3 hc1 hc0 hl4 hav HPLN
    by_cases k1 : (k.size : Int) < 1
    · have k2 : decide ((k.size : Int) < 1) = true := decide_eq_true k1
      go_wp2_with fail
      go_ret
      exact ⟨rfl, MkN.kept M3.out⟩
    have k2 : decide ((k.size : Int) < 1) = false := decide_eq_false k1
    by_cases k3 : (8 : Int) < (k.size : Int)
    · have k4 : decide ((8 : Int) < (k.size : Int)) = true := decide_eq_true k3
      go_wp2_with fail
      go_ret
      exact ⟨rfl, MkN.kept M3.out⟩
    have k4 : decide ((8 : Int) < (k.size : Int)) = false := decide_eq_false k3
    have hk8 : 0 < k.size ∧ k.size ≤ 8 := by omega
    have D0 : Hid _ := MkN.valN M3.out k HKM.out HEX.out
    go_wp2_with fail
    refine Calls.mono D0.out ?_
    rintro e w4 ⟨rfl, k4'⟩
    have M4 : Hid (MkN w w4 mb M') := MkN.on M3.out k4'
    clear k4' D0
    obtain ⟨s0, hS3, hc1, hc0, hl4, hav⟩ := HSX.out
    obtain ⟨M1, a3, e1, c1, f3, o3, s1⟩ := s0.begin (i := 3) (by decide) hS3 (by omega) (by omega)
    have HSN : Hid (Snp M'.A a3 M1) := ⟨s1.ok, (s1.act 3).trans (up_same _ _ _), ⟨[], by rw [List.append_nil]; exact s1.A, fun e he => (by cases he)⟩, by rw [f3, s1.clock]; exact Int.le_refl _⟩
    have HE1 : Hid _ := And.intro e1 c1
    have HSEE : Hid (∀ (aa : Ac) MM cc, aa.t.f2 = a3.t.f2 → Snp M'.A aa MM → lastW aa.t.ops k = none → seeM (MM.tick cc) aa.t k = (x.f, x.v)) := fun aa MM cc hf hsn hlw => by
      have h9 := hsn.see hlw hav (by rw [hf, f3]; omega) cc
      rw [h9]
      show ((valM M' k).f, (valM M' k).v) = _
      rw [show valM M' k = x from HEX.out]
    have HO3 : Hid (a3.t.ops = []) := o3
    clear s0 s1 hS3 hc1 hc0 hl4 hav e1 c1 f3 o3 HSX M3
    have D1 : Hid _ := MkN.doN M4.out 1 3 0 e0 e0 (by decide) (by decide) HE1.out.1 HE1.out.2
    go_wp2_with fail
    refine Calls.mono D1.out ?_
    rintro e u1 ⟨rfl, n1⟩
    have N1 : Hid (MkN w u1 mb M1) := n1
    clear n1 D1 M4
    go_upto_region 11 with fail
    go_loopw [48] (fun i wr => ∃ (j : Nat) (Mj : Mm), j ≤ n ∧ i = .int .i64 (j : Int) ∧ MkN w wr mb Mj ∧ Snp M'.A a3 Mj) (fun i _ => n - (intOf i).toNat)
    case atStart => exact ⟨0, M1, Nat.zero_le _, rfl, N1.out, HSN.out⟩
    case round =>
      obtain ⟨j, Mj, hj, rfl, mj, sj⟩ := hrel
      have MJ : Hid (MkN w wr mb Mj) := mj
      have SJ : Hid (Snp M'.A a3 Mj) := sj
      clear mj sj N1 HSN
      by_cases hlt : j < n
      · have c1 : decide ((j : Int) < (n : Int)) = true := by simp only [decide_eq_true_eq]; omega
        have hlt2 : (j : Int) < (n : Int) := by omega
        obtain ⟨s, hsj⟩ : ∃ s, l'[j]? = some s := ⟨_, List.getElem?_eq_getElem (by rw [← EN.out]; exact hlt)⟩
        obtain ⟨b, off, rfl, hb, q0, q1, q2, q3, q4⟩ := (StepsAt.on HL'.out (MkN.kept MJ.out)) j s hsj
        obtain ⟨hsk, hsv⟩ := HS'.out s (List.mem_of_getElem? hsj)
        have MX : Hid (MkN w (wr.alloc (.cells #[.int .i64 s.kind, .int .i64 s.ses, .int .i64 s.gap, .string s.key, .string s.value] 32 (0, 0))) mb Mj) := MkN.on MJ.out ((Same.refl _ _).alloc _)
        clear hsj
        by_cases h3 : s.ses = 3
        · have f1 : (s.ses == 3) = true := by simpa using h3
          have f2 : (s.ses != 3) = false := by unfold bne; rw [f1]; rfl
          clear h3 f1
          go_wp2_with fail
          go_roundw
          case rel => exact ⟨j + 1, Mj, by omega, by first | rfl | simp, MX.out, SJ.out⟩
          case measure => simp only [intOf]; omega
        · have f1 : (s.ses == 3) = false := by simpa using h3
          have f2 : (s.ses != 3) = true := by unfold bne; rw [f1]; rfl
          by_cases hjq : j < q
          · have g1 : decide ((j : Int) < (q : Int)) = true := decide_eq_true (by omega)
            have g2 : (j : Int) < (q : Int) := by omega
            obtain ⟨A, c, M'', x1, x2⟩ : ∃ A c M'', doM Mj ⟨s.kind, s.ses, s.gap, s.key, s.value⟩ = (M'', A) ∧ codeD Mj ⟨s.kind, s.ses, s.gap, s.key, s.value⟩ = c := ⟨_, _, _, rfl, rfl⟩
            have HDO : Hid _ := MkN.doN MX.out s.kind s.ses s.gap s.key s.value hsk hsv x1 x2
            have SX : Hid (Snp M'.A a3 M'') := by
              have h9 := Snp.other SJ.out (s := ⟨s.kind, s.ses, s.gap, s.key, s.value⟩) h3
              rw [x1] at h9
              exact h9
            clear x1 x2
            go_wp2_with fail
            refine Calls.mono HDO.out ?_
            rintro r w5 ⟨rfl, m5⟩
            have M5 : Hid (MkN w w5 mb M'') := m5
            clear m5
            go_wp2_with fail
            go_roundw
            case rel => exact ⟨j + 1, M'', by omega, by first | rfl | simp, M5.out, SX.out⟩
            case measure => simp only [intOf]; omega
          · have g1 : decide ((j : Int) < (q : Int)) = false := decide_eq_false (by omega)
            have g2 : ¬ (j : Int) < (q : Int) := by omega
            go_wp2_with fail
            go_roundw
            case rel => exact ⟨j + 1, Mj, by omega, by first | rfl | simp, MX.out, SJ.out⟩
            case measure => simp only [intOf]; omega
      · have c1 : decide ((j : Int) < (n : Int)) = false := by simp only [decide_eq_false_iff_not]; omega
        obtain rfl : n = j := by omega
        have s0 := Sx.of (Snp.ok SJ.out)
        have hax : (fun j => (Mj.at j).act) 3 = some a3 := Snp.act SJ.out
        have hlw : lastW a3.t.ops k = none := by rw [HO3.out]; rfl
        have hl0 : a3.t.ops.length ≠ 16 := by rw [HO3.out]; decide
        by_cases hz : Mj.clock < 1099511627776
        · obtain ⟨MR, e1, c1', s1⟩ := s0.read (k := k) hax hl0 hk8 hz (HSEE.out a3 Mj (Mj.clock + 1) rfl SJ.out hlw)
          obtain ⟨a4, ea4⟩ : ∃ a4, a4 = addO a3 (Mj.clock + 1) ⟨1, k, x.f, x.v⟩ := ⟨_, rfl⟩
          have SR : Hid (Snp M'.A a4 MR) := by
            obtain ⟨B, g1, g2⟩ := Snp.A SJ.out
            refine ⟨s1.ok, by rw [ea4]; exact (s1.act 3).trans (up_same _ _ _), ⟨B, s1.A.trans g1, by rw [ea4]; exact g2⟩, ?_⟩
            have h9 := Snp.clock SJ.out
            rw [ea4, s1.clock]
            show a3.t.f2 ≤ Mj.clock + 1
            omega
          have HF4 : Hid (a4.t.f2 = a3.t.f2) := by show a4.t.f2 = _; rw [ea4]; rfl
          have hop : a4.t.ops = a3.t.ops ++ [⟨1, k, x.f, x.v⟩] := by rw [ea4]; rfl
          have HLW : Hid (lastW a4.t.ops k = none) := by show lastW a4.t.ops k = none; rw [hop]; exact lastW_read rfl hlw
          have H16 : Hid (a4.t.ops.length ≠ 16) := by show a4.t.ops.length ≠ 16; rw [hop, HO3.out]; simp
          have D1 : Hid _ := MkN.doN MJ.out 2 3 0 k e0 HKM.out (by decide) e1 c1'
          clear s0 s1 hax hlw hl0 e1 c1' ea4 hop SJ
          go_wp2_with fail
          refine Calls.mono D1.out ?_
          rintro e u3 ⟨rfl, n3⟩
          have N3 : Hid (MkB w (u3.alloc (.cells #[.bool x.f, .string x.v, .int .i64 0] 56 (0, 0))) mb MR (fun b => b = u3.heap.size ∨ False)) := MkB.add (MkN.b n3) _
          have HB3 : Hid (AnB (u3.alloc (.cells #[.bool x.f, .string x.v, .int .i64 0] 56 (0, 0))) u3.heap.size ⟨x.f, x.v, 0⟩) := heap_new _ _
          clear n3 D1 hlt
          go_upto_region 18 with fail
          generalize u3.alloc (.cells #[.bool x.f, .string x.v, .int .i64 0] 56 (0, 0)) = U3 at *
          generalize u3.heap.size = g12 at *
          go_loopw [76] (fun i wr => ∃ (j : Nat) (Mj : Mm), j ≤ n ∧ i = .int .i64 (j : Int) ∧ MkB w wr mb Mj (fun b => b = g12 ∨ False) ∧ Snp M'.A a4 Mj ∧ AnB wr g12 ⟨x.f, x.v, 0⟩) (fun i _ => n - (intOf i).toNat)
          case atStart => exact ⟨0, MR, Nat.zero_le _, rfl, N3.out, SR.out, HB3.out⟩
          case round =>
            obtain ⟨j, Mj, hj, rfl, mj, sj, bj⟩ := hrel
            have MJ : Hid (MkB w wr mb Mj (fun b => b = g12 ∨ False)) := mj
            have SJ : Hid (Snp M'.A a4 Mj) := sj
            have BXJ : Hid (AnB wr g12 ⟨x.f, x.v, 0⟩) := bj
            clear mj sj bj N3 SR HB3
            by_cases hlt : j < n
            · have c1 : decide ((j : Int) < (n : Int)) = true := by simp only [decide_eq_true_eq]; omega
              have hlt2 : (j : Int) < (n : Int) := by omega
              obtain ⟨s, hsj⟩ : ∃ s, l'[j]? = some s := ⟨_, List.getElem?_eq_getElem (by rw [← EN.out]; exact hlt)⟩
              obtain ⟨b, off, rfl, hb, q0, q1, q2, q3, q4⟩ := (StepsAt.on HL'.out (MkN.kept (MkB.n MJ.out))) j s hsj
              obtain ⟨hsk, hsv⟩ := HS'.out s (List.mem_of_getElem? hsj)
              have MX : Hid (MkB w (wr.alloc (.cells #[.int .i64 s.kind, .int .i64 s.ses, .int .i64 s.gap, .string s.key, .string s.value] 32 (0, 0))) mb Mj (fun b => b = g12 ∨ False)) := MkB.on MJ.out ((Same.refl _ _).alloc _)
              have BXX : Hid (AnB (wr.alloc (.cells #[.int .i64 s.kind, .int .i64 s.ses, .int .i64 s.gap, .string s.key, .string s.value] 32 (0, 0))) g12 ⟨x.f, x.v, 0⟩) := (Same.block ((Same.refl (fun _ => False) wr).alloc (.cells #[.int .i64 s.kind, .int .i64 s.ses, .int .i64 s.gap, .string s.key, .string s.value] 32 (0, 0))) g12 (lt_of_heap BXJ.out) (fun e => e)).trans BXJ.out
              clear hsj
              by_cases h3 : s.ses = 3
              · have f1 : (s.ses == 3) = true := by simpa using h3
                have f2 : (s.ses != 3) = false := by unfold bne; rw [f1]; rfl
                clear h3 f1
                go_wp2_with fail
                go_roundw
                case rel => exact ⟨j + 1, Mj, by omega, by first | rfl | simp, MX.out, SJ.out, BXX.out⟩
                case measure => simp only [intOf]; omega
              · have f1 : (s.ses == 3) = false := by simpa using h3
                have f2 : (s.ses != 3) = true := by unfold bne; rw [f1]; rfl
                by_cases hjq : q ≤ j
                · have g1 : decide ((q : Int) ≤ (j : Int)) = true := decide_eq_true (by omega)
                  have g2 : (q : Int) ≤ (j : Int) := by omega
                  obtain ⟨A, c, M'', x1, x2⟩ : ∃ A c M'', doM Mj ⟨s.kind, s.ses, s.gap, s.key, s.value⟩ = (M'', A) ∧ codeD Mj ⟨s.kind, s.ses, s.gap, s.key, s.value⟩ = c := ⟨_, _, _, rfl, rfl⟩
                  have HDO : Hid _ := MkB.doB MX.out s.kind s.ses s.gap s.key s.value hsk hsv x1 x2
                  have SX : Hid (Snp M'.A a4 M'') := by
                    have h9 := Snp.other SJ.out (s := ⟨s.kind, s.ses, s.gap, s.key, s.value⟩) h3
                    rw [x1] at h9
                    exact h9
                  clear x1 x2
                  go_wp2_with fail
                  refine Calls.mono HDO.out ?_
                  rintro r w5 ⟨rfl, m5, b5⟩
                  have M5 : Hid (MkB w w5 mb M'' (fun b => b = g12 ∨ False)) := m5
                  have BX5 : Hid (AnB w5 g12 ⟨x.f, x.v, 0⟩) := (b5 g12 (.inl rfl)).trans BXX.out
                  clear m5 b5
                  go_wp2_with fail
                  go_roundw
                  case rel => exact ⟨j + 1, M'', by omega, by first | rfl | simp, M5.out, SX.out, BX5.out⟩
                  case measure => simp only [intOf]; omega
                · have g1 : decide ((q : Int) ≤ (j : Int)) = false := decide_eq_false (by omega)
                  have g2 : ¬ (q : Int) ≤ (j : Int) := by omega
                  go_wp2_with fail
                  go_roundw
                  case rel => exact ⟨j + 1, Mj, by omega, by first | rfl | simp, MX.out, SJ.out, BXX.out⟩
                  case measure => simp only [intOf]; omega
            · have c1 : decide ((j : Int) < (n : Int)) = false := by simp only [decide_eq_false_iff_not]; omega
              obtain rfl : n = j := by omega
              have s0 := Sx.of (Snp.ok SJ.out)
              have hax : (fun j => (Mj.at j).act) 3 = some a4 := Snp.act SJ.out
              by_cases hz : Mj.clock < 1099511627776
              · obtain ⟨ME, x1, x2, -⟩ := s0.read (k := k) hax H16.out hk8 hz (HSEE.out a4 Mj (Mj.clock + 1) HF4.out SJ.out HLW.out)
                have D3 : Hid _ := MkB.doB MJ.out 2 3 0 k e0 HKM.out (by decide) x1 x2
                clear s0 hax x1 x2
                go_wp2_with fail
                refine Calls.mono D3.out ?_
                rintro e u5 ⟨rfl, n5, b5⟩
                have K5 : Hid (Kept w u5) := MkN.kept (MkB.n n5)
                have HB6 : Hid (AnB u5 g12 ⟨x.f, x.v, 0⟩) := (b5 g12 (.inl rfl)).trans BXJ.out
                obtain ⟨⟨z0, z1, z2⟩, hz12, -⟩ := AnB.cells HB6.out
                clear n5 b5
                go_wp2_with fail
                go_ret
                exact ⟨rfl, Same.alloc K5.out _⟩
              · obtain ⟨x1, x2⟩ := s0.full (k := k) (.inl rfl) hax H16.out hk8 hz
                have D3 : Hid _ := MkB.doB MJ.out 2 3 0 k e0 HKM.out (by decide) x1 x2
                clear s0 hax x1 x2
                go_wp2_with fail
                refine Calls.mono D3.out ?_
                rintro e u5 ⟨rfl, n5, b5⟩
                have K5 : Hid (Kept w u5) := MkN.kept (MkB.n n5)
                clear n5 b5
                go_wp2_with fail
                go_ret
                exact ⟨rfl, Same.alloc K5.out _⟩
        · obtain ⟨e1, c1'⟩ := s0.full (k := k) (.inl rfl) hax hl0 hk8 hz
          obtain ⟨MR, eMR⟩ : ∃ MR, MR = Mj := ⟨_, rfl⟩
          rw [← eMR] at SJ MJ e1 c1'
          have SR : Hid (Snp M'.A a3 MR) := SJ.out
          have D1 : Hid _ := MkN.doN MJ.out 2 3 0 k e0 HKM.out (by decide) e1 c1'
          clear s0 hax hlw hl0 e1 c1' eMR SJ hz
          go_wp2_with fail
          refine Calls.mono D1.out ?_
          rintro e u3 ⟨rfl, n3⟩
          have N3 : Hid (MkB w (u3.alloc (.cells #[.bool an0.found, .string an0.value, .int .i64 an0.status] 56 (0, 0))) mb MR (fun b => b = u3.heap.size ∨ False)) := MkB.add (MkN.b n3) _
          have HB3 : Hid (AnB (u3.alloc (.cells #[.bool an0.found, .string an0.value, .int .i64 an0.status] 56 (0, 0))) u3.heap.size an0) := heap_new _ _
          clear n3 D1 hlt
          go_upto_region 18 with fail
          generalize u3.alloc (.cells #[.bool an0.found, .string an0.value, .int .i64 an0.status] 56 (0, 0)) = U3 at *
          generalize u3.heap.size = g12 at *
          go_loopw [76] (fun i wr => ∃ (j : Nat) (Mj : Mm), j ≤ n ∧ i = .int .i64 (j : Int) ∧ MkB w wr mb Mj (fun b => b = g12 ∨ False) ∧ Snp M'.A a3 Mj ∧ AnB wr g12 an0) (fun i _ => n - (intOf i).toNat)
          case atStart => exact ⟨0, MR, Nat.zero_le _, rfl, N3.out, SR.out, HB3.out⟩
          case round =>
            obtain ⟨j, Mj, hj, rfl, mj, sj, bj⟩ := hrel
            have MJ : Hid (MkB w wr mb Mj (fun b => b = g12 ∨ False)) := mj
            have SJ : Hid (Snp M'.A a3 Mj) := sj
            have BXJ : Hid (AnB wr g12 an0) := bj
            clear mj sj bj N3 SR HB3
            by_cases hlt : j < n
            · have c1 : decide ((j : Int) < (n : Int)) = true := by simp only [decide_eq_true_eq]; omega
              have hlt2 : (j : Int) < (n : Int) := by omega
              obtain ⟨s, hsj⟩ : ∃ s, l'[j]? = some s := ⟨_, List.getElem?_eq_getElem (by rw [← EN.out]; exact hlt)⟩
              obtain ⟨b, off, rfl, hb, q0, q1, q2, q3, q4⟩ := (StepsAt.on HL'.out (MkN.kept (MkB.n MJ.out))) j s hsj
              obtain ⟨hsk, hsv⟩ := HS'.out s (List.mem_of_getElem? hsj)
              have MX : Hid (MkB w (wr.alloc (.cells #[.int .i64 s.kind, .int .i64 s.ses, .int .i64 s.gap, .string s.key, .string s.value] 32 (0, 0))) mb Mj (fun b => b = g12 ∨ False)) := MkB.on MJ.out ((Same.refl _ _).alloc _)
              have BXX : Hid (AnB (wr.alloc (.cells #[.int .i64 s.kind, .int .i64 s.ses, .int .i64 s.gap, .string s.key, .string s.value] 32 (0, 0))) g12 an0) := (Same.block ((Same.refl (fun _ => False) wr).alloc (.cells #[.int .i64 s.kind, .int .i64 s.ses, .int .i64 s.gap, .string s.key, .string s.value] 32 (0, 0))) g12 (lt_of_heap BXJ.out) (fun e => e)).trans BXJ.out
              clear hsj
              by_cases h3 : s.ses = 3
              · have f1 : (s.ses == 3) = true := by simpa using h3
                have f2 : (s.ses != 3) = false := by unfold bne; rw [f1]; rfl
                clear h3 f1
                go_wp2_with fail
                go_roundw
                case rel => exact ⟨j + 1, Mj, by omega, by first | rfl | simp, MX.out, SJ.out, BXX.out⟩
                case measure => simp only [intOf]; omega
              · have f1 : (s.ses == 3) = false := by simpa using h3
                have f2 : (s.ses != 3) = true := by unfold bne; rw [f1]; rfl
                by_cases hjq : q ≤ j
                · have g1 : decide ((q : Int) ≤ (j : Int)) = true := decide_eq_true (by omega)
                  have g2 : (q : Int) ≤ (j : Int) := by omega
                  obtain ⟨A, c, M'', x1, x2⟩ : ∃ A c M'', doM Mj ⟨s.kind, s.ses, s.gap, s.key, s.value⟩ = (M'', A) ∧ codeD Mj ⟨s.kind, s.ses, s.gap, s.key, s.value⟩ = c := ⟨_, _, _, rfl, rfl⟩
                  have HDO : Hid _ := MkB.doB MX.out s.kind s.ses s.gap s.key s.value hsk hsv x1 x2
                  have SX : Hid (Snp M'.A a3 M'') := by
                    have h9 := Snp.other SJ.out (s := ⟨s.kind, s.ses, s.gap, s.key, s.value⟩) h3
                    rw [x1] at h9
                    exact h9
                  clear x1 x2
                  go_wp2_with fail
                  refine Calls.mono HDO.out ?_
                  rintro r w5 ⟨rfl, m5, b5⟩
                  have M5 : Hid (MkB w w5 mb M'' (fun b => b = g12 ∨ False)) := m5
                  have BX5 : Hid (AnB w5 g12 an0) := (b5 g12 (.inl rfl)).trans BXX.out
                  clear m5 b5
                  go_wp2_with fail
                  go_roundw
                  case rel => exact ⟨j + 1, M'', by omega, by first | rfl | simp, M5.out, SX.out, BX5.out⟩
                  case measure => simp only [intOf]; omega
                · have g1 : decide ((q : Int) ≤ (j : Int)) = false := decide_eq_false (by omega)
                  have g2 : ¬ (q : Int) ≤ (j : Int) := by omega
                  go_wp2_with fail
                  go_roundw
                  case rel => exact ⟨j + 1, Mj, by omega, by first | rfl | simp, MX.out, SJ.out, BXX.out⟩
                  case measure => simp only [intOf]; omega
            · have c1 : decide ((j : Int) < (n : Int)) = false := by simp only [decide_eq_false_iff_not]; omega
              obtain rfl : n = j := by omega
              obtain ⟨A, c, M'', x1, x2⟩ : ∃ A c M'', doM Mj ⟨2, 3, 0, k, e0⟩ = (M'', A) ∧ codeD Mj ⟨2, 3, 0, k, e0⟩ = c := ⟨_, _, _, rfl, rfl⟩
              have D3 : Hid _ := MkB.doB MJ.out 2 3 0 k e0 HKM.out (by decide) x1 x2
              clear x1 x2
              go_wp2_with fail
              refine Calls.mono D3.out ?_
              rintro e u5 ⟨rfl, n5, b5⟩
              have K5 : Hid (Kept w u5) := MkN.kept (MkB.n n5)
              clear n5 b5
              go_wp2_with fail
              go_ret
              exact ⟨rfl, Same.alloc K5.out _⟩
end Go.Proofs.Ytmlefbpdlgnkgaa
