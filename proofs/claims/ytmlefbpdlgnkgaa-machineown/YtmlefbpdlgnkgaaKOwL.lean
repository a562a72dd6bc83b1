/- What is proved: the law MachineOwn answers true, and all that was there stays as it was; the scripts lie in memory. -/
import Derived.Test.YtmlefbpdlgnkgaaKOwn
namespace Go.Proofs.Ytmlefbpdlgnkgaa
open Go.RowKit

set_option maxRecDepth 100000 in
set_option maxHeartbeats 6400000 in
theorem own_law {w : World} {a : Option Addr} {l : List Stp} {cap : Nat} (hl : StepsAt w a l) (hs : SmallS l) (hn : l.length ≤ 9223372036854775807) (k : ByteArray) (hk : k.size ≤ maxLen) (v : ByteArray) (hv : v.size ≤ maxLen) {a' : Option Addr} {l' : List Stp} {cap' : Nat} (hl' : StepsAt w a' l') (hs' : SmallS l') (hn' : l'.length ≤ 9223372036854775807) :
    Calls Try.prog 5 #[.slice a l.length cap, .string k, .string v, .slice a' l'.length cap'] w fun e w' => e = .returned (.bool true) ∧ Kept w w' := by
  have HAN : Hid _ := anchor15 w
  have HPL : Hid (∀ W, Kept w W → Calls Try.prog 24 #[.slice a l.length cap] W fun e w' => ∃ mb, e = .returned (.pointer (some ⟨mb, 0, none⟩)) ∧ MkN W w' mb (plM (newM 4 0) l)) := fun W k' => played15 (hl.on k') hs hn
  have hok0 : Ok 4 (plM (newM 4 0) l) := plM_ok l (Ok.new (by decide) (by decide))
  have hks : (k.size : Int) ≤ 9223372036854775807 := by unfold maxLen at hk; omega
  have hvs : (v.size : Int) ≤ 9223372036854775807 := by unfold maxLen at hv; omega
  have HKM : Hid (k.size ≤ maxLen ∧ v.size ≤ maxLen) := ⟨hk, hv⟩
  have HL' : Hid (StepsAt w a' l') := hl'
  have HS' : Hid (SmallS l') := hs'
  clear hl hs hn hk hv hl' hs'
  generalize plM (newM 4 0) l = M0 at *
  generalize l.length = ln at *
  obtain ⟨n, en⟩ : ∃ n, n = l'.length := ⟨_, rfl⟩
  have EN : Hid (n = l'.length) := en
  rw [← en] at hn' ⊢
  clear en
  obtain ⟨M', eM'⟩ : ∃ M', freeM M0 = M' := ⟨_, rfl⟩
  obtain ⟨fr, efr⟩ : ∃ fr, freeB M' = fr := ⟨_, rfl⟩
  have hok' : Ok 4 M' := by rw [← eM']; exact hok0.free
  have HFR : Hid (∀ w0 W mb, MkN w0 W mb M0 → Calls Try.prog 25 #[.pointer (some ⟨mb, 0, none⟩)] W fun e w'' => e = .returned (.bool fr) ∧ MkN w0 w'' mb M') := fun w0 W mb h => free15 h hok0 eM' efr
  have HPLN : Hid (fr = true → Sx 4 M' M'.clock M'.A M'.log.length (fun j => (M'.at j).act) ∧ (M'.at 3).act = none ∧ M'.clock < 549755813888 ∧ 0 ≤ M'.clock ∧ M'.log.length < 4000) := fun h1 => by
    obtain ⟨f1, f2, f3⟩ := freeB_true (efr.trans h1)
    exact ⟨Sx.of hok', f1, f2, hok'.inv.c0, f3⟩
  clear eM' efr hok0 hok'
  go_enter Try.func5, Try.ntmps5
  go_wp2_with fail
  refine Calls.mono HAN.out ?_
  rintro e w0 ⟨rfl, k0⟩
  have K0 : Hid (Kept w w0) := k0
  clear k0 HAN
  go_wp2_with fail
  refine Calls.mono (HPL.out w0 K0.out) ?_
  rintro e w1 ⟨mb, rfl, m1⟩
  have MA1 : Hid (MkN w w1 mb M0) := MkN.behind K0.out m1
  clear m1 HPL
  go_wp2_with fail
  refine Calls.mono (HFR.out w _ mb MA1.out) ?_
  rintro e w3 ⟨rfl, m3⟩
  have M3 : Hid (MkN w w3 mb M') := m3
  clear m3 HFR MA1
  cases fr with
  | false =>
    go_wp2_with fail
    go_ret
    exact ⟨rfl, MkN.kept M3.out⟩
  | true =>
    obtain ⟨s0, hS3, hc1, hc0, hl4⟩ := HPLN.out (by simp)
    have HSX : Hid _ := And.intro s0 (And.intro hS3 (And.intro hc1 (And.intro hc0 hl4)))
    clear s0 hS3 hc1 hc0 hl4
    by_cases k1 : (k.size : Int) < 1
    · have k2 : decide ((k.size : Int) < 1) = true := decide_eq_true k1
      go_wp2_with fail
      go_ret
      exact ⟨rfl, MkN.kept M3.out⟩
    have k2 : decide ((k.size : Int) < 1) = false := decide_eq_false k1
    by_cases k3 : (8 : Int) < (k.size : Int)
    · have k4 : decide ((8 : Int) < (k.size : Int)) = true := decide_eq_true k3
      go_wp2_with fail
      go_ret
      exact ⟨rfl, MkN.kept M3.out⟩
    have k4 : decide ((8 : Int) < (k.size : Int)) = false := decide_eq_false k3
    by_cases k5 : (16 : Int) < (v.size : Int)
    · have k6 : decide ((16 : Int) < (v.size : Int)) = true := decide_eq_true k5
      go_wp2_with fail
      go_ret
      exact ⟨rfl, MkN.kept M3.out⟩
    have k6 : decide ((16 : Int) < (v.size : Int)) = false := decide_eq_false k5
    have hk8 : 0 < k.size ∧ k.size ≤ 8 := by omega
    obtain ⟨s0, hS3, hc1, hc0, hl4⟩ := HSX.out
    obtain ⟨M1, a3, e1, c1, f3, o3, s1⟩ := s0.begin (i := 3) (by decide) hS3 (by omega) (by omega)
    obtain ⟨M2, e2, c2, s2⟩ := s1.write (i := 3) (a := a3) (k := k) (v := v) (up_same _ _ _) (by rw [o3]; decide) hk8 (by omega) (by omega)
    obtain ⟨at2, eat⟩ : ∃ x, x = addO a3 (M'.clock + 1 + 1) ⟨2, k, true, v⟩ := ⟨_, rfl⟩
    have hops : at2.t.ops = [] ++ [⟨2, k, true, v⟩] := by rw [eat]; show a3.t.ops ++ _ = _; rw [o3]
    have hact : (M2.at 3).act = some at2 := by rw [eat]; exact (s2.act 3).trans (up_same _ _ _)
    have HE1 : Hid _ := And.intro e1 c1
    have HE2 : Hid _ := And.intro e2 c2
    have HOK : Hid (Ok 4 M2) := s2.ok
    have HACT : Hid ((M2.at 3).act = some at2) := hact
    have HOPS : Hid (at2.t.ops = [] ++ [⟨2, k, true, v⟩]) := hops
    clear s0 s1 s2 hS3 hc1 hc0 hl4 e1 c1 e2 c2 f3 o3 eat hops hact HSX
    have D1 : Hid _ := MkN.doN M3.out 1 3 0 e0 e0 (by decide) (by decide) HE1.out.1 HE1.out.2
    go_wp2_with fail
    refine Calls.mono D1.out ?_
    rintro e u1 ⟨rfl, n1⟩
    have D2 : Hid _ := MkN.doN n1 3 3 0 k v HKM.out.1 HKM.out.2 HE2.out.1 HE2.out.2
    clear n1
    go_wp2_with fail
    refine Calls.mono D2.out ?_
    rintro e u2 ⟨rfl, n2⟩
    have N2 : Hid (MkN w u2 mb M2) := n2
    have N2' : Hid (MkN w (u2.alloc (.cells #[.bool an0.found, .string an0.value, .int .i64 an0.status] 56 (0, 0))) mb M2) := MkN.on n2 ((Same.refl _ _).alloc _)
    clear n2 D1 D2
    go_upto_region 11 with fail
    generalize u2.alloc (.cells #[.bool an0.found, .string an0.value, .int .i64 an0.status] 56 (0, 0)) = U2 at *
    generalize u2.heap.size = g10 at *
    go_loopw [55] (fun i wr => ∃ (j : Nat) (Mj : Mm), j ≤ n ∧ i = .int .i64 (j : Int) ∧ MkN w wr mb Mj ∧ Ok 4 Mj ∧ (Mj.at 3).act = some at2) (fun i _ => n - (intOf i).toNat)
    case atStart => exact ⟨0, M2, Nat.zero_le _, rfl, N2'.out, HOK.out, HACT.out⟩
    case round =>
      obtain ⟨j, Mj, hj, rfl, mj, oj, aj⟩ := hrel
      have MJ : Hid (MkN w wr mb Mj) := mj
      have OJ : Hid (Ok 4 Mj) := oj
      have AJ : Hid ((Mj.at 3).act = some at2) := aj
      clear mj oj aj N2 N2' HOK HACT
      by_cases hlt : j < n
      · have c1 : decide ((j : Int) < (n : Int)) = true := by simp only [decide_eq_true_eq]; omega
        have hlt2 : (j : Int) < (n : Int) := by omega
        obtain ⟨s, hsj⟩ : ∃ s, l'[j]? = some s := ⟨_, List.getElem?_eq_getElem (by rw [← EN.out]; exact hlt)⟩
        obtain ⟨b, off, rfl, hb, q0, q1, q2, q3, q4⟩ := (StepsAt.on HL'.out (MkN.kept MJ.out)) j s hsj
        obtain ⟨hsk, hsv⟩ := HS'.out s (List.mem_of_getElem? hsj)
        have MX : Hid (MkN w (wr.alloc (.cells #[.int .i64 s.kind, .int .i64 s.ses, .int .i64 s.gap, .string s.key, .string s.value] 32 (0, 0))) mb Mj) := MkN.on MJ.out ((Same.refl _ _).alloc _)
        clear hsj
        by_cases h3 : s.ses = 3
        · have f1 : (s.ses == 3) = true := by simpa using h3
          have f2 : (s.ses != 3) = false := by unfold bne; rw [f1]; rfl
          clear h3 f1
          go_wp2_with fail
          go_roundw
          case rel => exact ⟨j + 1, Mj, by omega, by first | rfl | simp, MX.out, OJ.out, AJ.out⟩
          case measure => simp only [intOf]; omega
        · have f1 : (s.ses == 3) = false := by simpa using h3
          have f2 : (s.ses != 3) = true := by unfold bne; rw [f1]; rfl
          obtain ⟨A, c, M'', x1, x2⟩ : ∃ A c M'', doM Mj ⟨s.kind, s.ses, s.gap, s.key, s.value⟩ = (M'', A) ∧ codeD Mj ⟨s.kind, s.ses, s.gap, s.key, s.value⟩ = c := ⟨_, _, _, rfl, rfl⟩
          have HDO : Hid _ := MkN.doN MX.out s.kind s.ses s.gap s.key s.value hsk hsv x1 x2
          have OX : Hid (Ok 4 M'') := by
            have h9 := Ok.step OJ.out ⟨s.kind, s.ses, s.gap, s.key, s.value⟩
            rw [x1] at h9
            exact h9
          have AX : Hid ((M''.at 3).act = some at2) := by
            have h9 := other_at (M := Mj) (s := ⟨s.kind, s.ses, s.gap, s.key, s.value⟩) (j := 3) h3
            rw [x1] at h9
            exact h9.trans AJ.out
          clear x1 x2
          go_wp2_with fail
          refine Calls.mono HDO.out ?_
          rintro r w5 ⟨rfl, m5⟩
          have M5 : Hid (MkN w w5 mb M'') := m5
          clear m5
          go_wp2_with fail
          go_roundw
          case rel => exact ⟨j + 1, M'', by omega, by first | rfl | simp, M5.out, OX.out, AX.out⟩
          case measure => simp only [intOf]; omega
      · have c1 : decide ((j : Int) < (n : Int)) = false := by simp only [decide_eq_false_iff_not]; omega
        obtain rfl : j = n := by omega
        have s0 := Sx.of OJ.out
        have hax : (fun j => (Mj.at j).act) 3 = some at2 := AJ.out
        have hl1 : at2.t.ops.length ≠ 16 := by rw [HOPS.out]; simp
        have hksz : k.size ≤ maxLen := HKM.out.1
        by_cases hz : Mj.clock < 1099511627776
        · obtain ⟨MR, e1, c1', s1⟩ := s0.read (k := k) hax hl1 hk8 hz (see_own (o := ⟨2, k, true, v⟩) HOPS.out rfl (by simp))
          have MB1 : Hid (∀ u, MkN w u mb MR → MkB w (u.alloc (.cells #[.bool true, .string v, .int .i64 0] 56 (0, 0))) mb MR (fun b => b = u.heap.size ∨ False)) := fun u hu => MkB.add (MkN.b hu) _
          have D1 : Hid _ := MkN.doN MJ.out 2 3 0 k e0 hksz (by decide) e1 c1'
          have hop3 : (addO at2 (Mj.clock + 1) ⟨1, k, true, v⟩).t.ops = ([] ++ [⟨2, k, true, v⟩]) ++ [⟨1, k, true, v⟩] := by show at2.t.ops ++ _ = _; rw [HOPS.out]
          by_cases hz2 : Mj.clock + 1 < 1099511627776
          · obtain ⟨MD, x1, x2, s2⟩ := s1.del (i := 3) (k := k) (up_same _ _ _) (by rw [hop3]; simp) hk8 hz2
            have hop4 : (addO (addO at2 (Mj.clock + 1) ⟨1, k, true, v⟩) (Mj.clock + 1 + 1) ⟨3, k, false, e0⟩).t.ops = (([] ++ [⟨2, k, true, v⟩]) ++ [⟨1, k, true, v⟩]) ++ [⟨3, k, false, e0⟩] := by show (addO at2 (Mj.clock + 1) ⟨1, k, true, v⟩).t.ops ++ _ = _; rw [hop3]
            have X1 : Hid _ := And.intro x1 x2
            by_cases hz3 : Mj.clock + 1 + 1 < 1099511627776
            · obtain ⟨ME, x3, x4, -⟩ := s2.read (i := 3) (k := k) (up_same _ _ _) (by rw [hop4]; simp) hk8 hz3 (see_own (o := ⟨3, k, false, e0⟩) hop4 rfl (by simp))
              have X2 : Hid _ := And.intro x3 x4
              clear x1 x2 x3 x4 s2 hop4
              clear s0 s1 hax e1 c1' hop3
              go_wp2_with fail
              refine Calls.mono D1.out ?_
              rintro e u3 ⟨rfl, n3⟩
              have m3 := MB1.out u3 n3
              have HB3 : Hid (AnB (u3.alloc (.cells #[.bool true, .string v, .int .i64 0] 56 (0, 0))) u3.heap.size ⟨true, v, 0⟩) := heap_new _ _
              have D2 : Hid _ := MkB.doB m3 4 3 0 k e0 hksz (by decide) X1.out.1 X1.out.2
              clear n3 m3
              go_wp2_with fail
              generalize u3.alloc (.cells #[.bool true, .string v, .int .i64 0] 56 (0, 0)) = U3 at *
              generalize u3.heap.size = g14 at *
              refine Calls.mono D2.out ?_
              rintro e u4 ⟨rfl, n4, b4⟩
              have HB4 : Hid (AnB u4 g14 ⟨true, v, 0⟩) := (b4 g14 (.inl rfl)).trans HB3.out
              have D3 : Hid _ := MkB.doB n4 2 3 0 k e0 hksz (by decide) X2.out.1 X2.out.2
              clear n4 b4
              go_wp2_with fail
              refine Calls.mono D3.out ?_
              rintro e u5 ⟨rfl, n5, b5⟩
              have HB5 : Hid (AnB u5 g14 ⟨true, v, 0⟩) := (b5 g14 (.inl rfl)).trans HB4.out
              have K5 : Hid (Kept w u5) := MkN.kept (MkB.n n5)
              obtain ⟨⟨z0, z1, -⟩, hz14, -⟩ := AnB.cells HB5.out
              clear n5 b5
              go_wp2_with fail
              go_ret
              exact ⟨rfl, Same.alloc K5.out _⟩
            · obtain ⟨x3, x4⟩ := s2.full (i := 3) (k := k) (.inl rfl) (up_same _ _ _) (by rw [hop4]; simp) hk8 hz3
              have X2 : Hid _ := And.intro x3 x4
              clear x1 x2 x3 x4 s2 hop4
              clear s0 s1 hax e1 c1' hop3
              go_wp2_with fail
              refine Calls.mono D1.out ?_
              rintro e u3 ⟨rfl, n3⟩
              have m3 := MB1.out u3 n3
              have HB3 : Hid (AnB (u3.alloc (.cells #[.bool true, .string v, .int .i64 0] 56 (0, 0))) u3.heap.size ⟨true, v, 0⟩) := heap_new _ _
              have D2 : Hid _ := MkB.doB m3 4 3 0 k e0 hksz (by decide) X1.out.1 X1.out.2
              clear n3 m3
              go_wp2_with fail
              generalize u3.alloc (.cells #[.bool true, .string v, .int .i64 0] 56 (0, 0)) = U3 at *
              generalize u3.heap.size = g14 at *
              refine Calls.mono D2.out ?_
              rintro e u4 ⟨rfl, n4, b4⟩
              have HB4 : Hid (AnB u4 g14 ⟨true, v, 0⟩) := (b4 g14 (.inl rfl)).trans HB3.out
              have D3 : Hid _ := MkB.doB n4 2 3 0 k e0 hksz (by decide) X2.out.1 X2.out.2
              clear n4 b4
              go_wp2_with fail
              refine Calls.mono D3.out ?_
              rintro e u5 ⟨rfl, n5, b5⟩
              have HB5 : Hid (AnB u5 g14 ⟨true, v, 0⟩) := (b5 g14 (.inl rfl)).trans HB4.out
              have K5 : Hid (Kept w u5) := MkN.kept (MkB.n n5)
              obtain ⟨⟨z0, z1, -⟩, hz14, -⟩ := AnB.cells HB5.out
              clear n5 b5
              go_wp2_with fail
              go_ret
              exact ⟨rfl, Same.alloc K5.out _⟩
          · obtain ⟨x1, x2⟩ := s1.full (i := 3) (k := k) (.inr rfl) (up_same _ _ _) (by rw [hop3]; simp) hk8 hz2
            obtain ⟨x3, x4⟩ := s1.full (i := 3) (k := k) (.inl rfl) (up_same _ _ _) (by rw [hop3]; simp) hk8 hz2
            have X1 : Hid _ := And.intro x1 x2
            have X2 : Hid _ := And.intro x3 x4
            clear x1 x2 x3 x4
            clear s0 s1 hax e1 c1' hop3
            go_wp2_with fail
            refine Calls.mono D1.out ?_
            rintro e u3 ⟨rfl, n3⟩
            have m3 := MB1.out u3 n3
            have HB3 : Hid (AnB (u3.alloc (.cells #[.bool true, .string v, .int .i64 0] 56 (0, 0))) u3.heap.size ⟨true, v, 0⟩) := heap_new _ _
            have D2 : Hid _ := MkB.doB m3 4 3 0 k e0 hksz (by decide) X1.out.1 X1.out.2
            clear n3 m3
            go_wp2_with fail
            generalize u3.alloc (.cells #[.bool true, .string v, .int .i64 0] 56 (0, 0)) = U3 at *
            generalize u3.heap.size = g14 at *
            refine Calls.mono D2.out ?_
            rintro e u4 ⟨rfl, n4, b4⟩
            have HB4 : Hid (AnB u4 g14 ⟨true, v, 0⟩) := (b4 g14 (.inl rfl)).trans HB3.out
            have D3 : Hid _ := MkB.doB n4 2 3 0 k e0 hksz (by decide) X2.out.1 X2.out.2
            clear n4 b4
            go_wp2_with fail
            refine Calls.mono D3.out ?_
            rintro e u5 ⟨rfl, n5, b5⟩
            have HB5 : Hid (AnB u5 g14 ⟨true, v, 0⟩) := (b5 g14 (.inl rfl)).trans HB4.out
            have K5 : Hid (Kept w u5) := MkN.kept (MkB.n n5)
            obtain ⟨⟨z0, z1, -⟩, hz14, -⟩ := AnB.cells HB5.out
            clear n5 b5
            go_wp2_with fail
            go_ret
            exact ⟨rfl, Same.alloc K5.out _⟩
        · obtain ⟨e1, c1'⟩ := s0.full (k := k) (.inl rfl) hax hl1 hk8 hz
          obtain ⟨A, c, M'', x1, x2⟩ : ∃ A c M'', doM Mj ⟨4, 3, 0, k, e0⟩ = (M'', A) ∧ codeD Mj ⟨4, 3, 0, k, e0⟩ = c := ⟨_, _, _, rfl, rfl⟩
          obtain ⟨A3, c3, M4, x3, x4⟩ : ∃ A c M4, doM M'' ⟨2, 3, 0, k, e0⟩ = (M4, A) ∧ codeD M'' ⟨2, 3, 0, k, e0⟩ = c := ⟨_, _, _, rfl, rfl⟩
          have D1 : Hid _ := MkN.doN MJ.out 2 3 0 k e0 hksz (by decide) e1 c1'
          have X1 : Hid _ := And.intro x1 x2
          have X2 : Hid _ := And.intro x3 x4
          clear s0 hax e1 c1' x1 x2 x3 x4
          go_wp2_with fail
          refine Calls.mono D1.out ?_
          rintro e u3 ⟨rfl, n3⟩
          have D2 : Hid _ := MkN.doN (MkN.on n3 ((Same.refl _ u3).alloc (.cells #[.bool false, .string e0, .int .i64 0] 56 (0, 0)))) 4 3 0 k e0 hksz (by decide) X1.out.1 X1.out.2
          clear n3
          go_wp2_with fail
          refine Calls.mono D2.out ?_
          rintro e u4 ⟨rfl, n4⟩
          have D3 : Hid _ := MkN.doN n4 2 3 0 k e0 hksz (by decide) X2.out.1 X2.out.2
          clear n4
          go_wp2_with fail
          refine Calls.mono D3.out ?_
          rintro e u5 ⟨rfl, n5⟩
          have K5 : Hid (Kept w u5) := MkN.kept n5
          clear n5
          go_wp2_with fail
          go_ret
          exact ⟨rfl, Same.alloc K5.out _⟩
end Go.Proofs.Ytmlefbpdlgnkgaa
