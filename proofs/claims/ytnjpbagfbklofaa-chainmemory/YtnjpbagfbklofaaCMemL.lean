/- What is proved: the law on memory answers true, and leaves all that was there as it was: what Chain and Keys answer is memory of their own; no condition. -/
import Derived.Test.YtnjpbagfbklofaaCMemA
namespace Go.Proofs.Ytnjpbagfbklofaa
open Go.RowKit
open Go.Proofs (encStr)

set_option maxRecDepth 100000 in
set_option maxHeartbeats 6400000 in
theorem memory_yes (w : World) (n : Nat) (h1 : 1 ≤ n) (h2 : n ≤ 50) :
    Calls Try.prog 8 #[.int .i64 n] w fun e w' => e = .returned (.bool true) ∧ Kept w w' := by
  have HAN : Hid _ := anchor13_any w
  have d1 : ¬ (n : Int) < 1 := by omega
  have d2 : decide ((n : Int) < 1) = false := decide_eq_false d1
  have d3 : ¬ (50 : Int) < (n : Int) := by omega
  have d4 : decide ((50 : Int) < (n : Int)) = false := decide_eq_false d3
  go_enter Try.func8, Try.ntmps8
  go_wp2_with fail
  refine Calls.mono HAN.out ?_
  rintro e w1 ⟨rfl, k1⟩
  have K1 : Hid (Kept w w1) := k1
  have HN : Hid _ := new13 w1
  clear k1 HAN
  go_wp2_with fail
  refine Calls.mono HN.out ?_
  rintro e w2 ⟨rfl, st2, k2⟩
  have ST2 : Hid _ := st2
  have K2 : Hid (Kept w w2) := Same.trans' K1.out k2
  have HLO : Hid (w.heap.size ≤ w1.heap.size) := K1.out.size
  clear st2 k2 HN
  generalize w1.heap.size + 2 = sb at *
  go_wp2_with fail
  clear d1 d2 d3 d4
  go_loopw [5] (fun i wr => ∃ (j : Nat) (F : Nat → Prop), j ≤ n ∧ i = .int .i64 j ∧ St F wr sb (Mm j) ∧ (∀ b, F b → w.heap.size ≤ b) ∧ Kept w wr) (fun i _ => n - (intOf i).toNat)
  case atStart => exact ⟨0, _, Nat.zero_le _, rfl, ST2.out, fun b hb => Nat.le_trans HLO.out hb.1, K2.out⟩
  case round =>
    obtain ⟨j, F, hj, rfl, st, hF, kk⟩ := hrel
    have ST : Hid (St F wr sb (Mm j)) := st
    have HF : Hid (∀ b, F b → w.heap.size ≤ b) := hF
    have KK : Hid (Kept w wr) := kk
    have hml := Mm_length j
    clear st kk hF
    by_cases hlt : j < n
    · have c1 : decide ((j : Int) < (n : Int)) = true := by simp only [decide_eq_true_eq]; omega
      have HI : Hid _ := install13 ST.out kz (by decide) (vz j) (by omega)
      rw [code_1 (show j < 52 by omega), inst_of (code_1 (show j < 52 by omega))] at HI
      unfold verV at HI
      simp only at HI
      go_wp2_with fail
      refine Calls.mono HI.out ?_
      rintro e w3 ⟨rfl, F3, st3, hF3, s3⟩
      have ST3 : Hid _ := st3
      have HF3 : Hid (∀ b, F3 b → w.heap.size ≤ b) := fun b hb => by
        rcases hF3 b hb with h | h
        · exact HF.out b h
        · exact Nat.le_trans KK.out.size h
      have KK3 : Hid (Kept w w3) := Same.trans KK.out s3 (fun i hi h => by have := HF.out i h; omega)
      have HI2 : Hid _ := install13 st3 (nm j) (by rw [nm_size (show j < 52 by omega)]; decide) (vy j) (by rw [List.length_append]; simp only [List.length_cons, List.length_nil]; omega)
      rw [code_2 (show j < 52 by omega), inst_of (code_2 (show j < 52 by omega))] at HI2
      unfold verV at HI2
      simp only at HI2
      have f1 : (0 : Int) ≤ (j : Int) := by omega
      have f2 : (j : Int) ≤ (j : Int) + 1 := by omega
      have f3 : (j : Int) + 1 ≤ 52 := by omega
      clear st3 hF3 s3 HI
      go_wp2_with fail
      refine Calls.mono HI2.out ?_
      rintro e w4 ⟨rfl, F4, st4, hF4, s4⟩
      have ST4 : Hid _ := st4
      have HF4 : Hid (∀ b, F4 b → w.heap.size ≤ b) := fun b hb => by
        rcases hF4 b hb with h | h
        · exact HF3.out b h
        · exact Nat.le_trans KK3.out.size h
      have KK4 : Hid (Kept w w4) := Same.trans KK3.out s4 (fun i hi h => by have := HF3.out i h; omega)
      clear st4 hF4 s4 HI2
      go_wp2_with fail
      go_roundw
      case rel => exact ⟨j + 1, F4, by omega, by simp, ST4.out, HF4.out, KK4.out⟩
      case measure => simp only [intOf]; omega
    · have c1 : decide ((j : Int) < (n : Int)) = false := by simp only [decide_eq_false_iff_not]; omega
      obtain rfl : j = n := by omega
      rename World => Z
      have HC1 : Hid _ := chain13 ST.out kz (by decide) (by omega)
      rw [Mm_z (show j ≤ 52 by omega)] at HC1
      go_wp2_with fail
      refine Calls.mono HC1.out ?_
      rintro e y1 ⟨v1, rfl, o1, k1⟩
      have L1 : Hid (Z.heap.size ≤ y1.heap.size) := k1.size
      have HC2 : Hid _ := chain13 (St.on ST.out k1) kz (by decide) (by omega)
      rw [Mm_z (show j ≤ 52 by omega)] at HC2
      have hlr : ((List.range j).map vz).length = j := by simp
      rw [OwnV, hlr] at o1
      obtain ⟨ga, pa, rfl, ha1, ha2⟩ := row_some o1 (by omega)
      have OA1 : Hid _ := o1
      have KZ1 : Hid (Kept Z y1) := k1
      clear o1 k1 HC1
      go_wp2_with fail
      refine Calls.mono HC2.out ?_
      rintro e y2 ⟨v2, rfl, o2, k2⟩
      rw [OwnV, hlr] at o2
      obtain ⟨gb, pb, rfl, hb1, hb2⟩ := row_some o2 (by omega)
      have OA2 : Hid _ := row_kept OA1.out k2 (fun _ _ e => e)
      have OB2 : Hid _ := o2
      have KZ2 : Hid (Kept Z y2) := Same.trans' KZ1.out k2
      have HK1 : Hid _ := keys13 (St.on ST.out KZ2.out) (by omega)
      have hbk : gb < y2.heap.size := hb2
      clear o2 k2 HC2 OA1 KZ1
      go_wp2_with fail
      refine Calls.mono HK1.out ?_
      rintro e y3 ⟨v3, l, rfl, kl3, o3, k3⟩
      have hll := keys_count (show 1 ≤ j by omega) h2 kl3
      have HKL : Hid (KeysOf (Mm j) l) := kl3
      rw [OwnS, hll] at o3
      obtain ⟨gk, pk, rfl, hk1, hk2⟩ := row_some o3 (by omega)
      have OA3 : Hid _ := row_kept OA2.out k3 (fun _ _ e => e)
      have OB3 : Hid _ := row_kept OB2.out k3 (fun _ _ e => e)
      have OK3 : Hid _ := o3
      have KZ3 : Hid (Kept Z y3) := Same.trans' KZ2.out k3
      have HK2 : Hid _ := keys13 (St.on ST.out KZ3.out) (by omega)
      clear o3 k3 HK1 OA2 OB2 KZ2 kl3
      go_wp2_with fail
      refine Calls.mono HK2.out ?_
      rintro e y4 ⟨v4, l4, rfl, kl4, o4, k4⟩
      obtain rfl := KeysOf.unique HKL.out kl4
      rw [OwnS, hll] at o4
      obtain ⟨gl, pl, rfl, hg1, hg2⟩ := row_some o4 (by omega)
      have OA : Hid _ := row_kept OA3.out k4 (fun _ _ e => e)
      have OB : Hid _ := row_kept OB3.out k4 (fun _ _ e => e)
      have OK : Hid _ := row_kept OK3.out k4 (fun _ _ e => e)
      have OL : Hid _ := o4
      have KZ4 : Hid (Kept Z y4) := Same.trans' KZ3.out k4
      clear o4 k4 HK2 OA3 OB3 OK3 KZ3 kl4
      obtain ⟨N, eN⟩ : ∃ N, N = j + 1 := ⟨_, rfl⟩
      rw [← eN] at OK OL hll
      rw [← eN]
      have i1 : (j : Int) + 1 = (N : Int) := by omega
      have i2 : IntKind.i64.wrap (N : Int) = (N : Int) := by rw [IntKind.wrap_i64]; omega
      have i3 : ((N : Int) != (N : Int)) = false := by simp
      have i4 : ((j : Int) != (j : Int)) = false := by simp
      have sz1 : y1.heap.size ≤ gb := hb1
      have sz2 : y2.heap.size ≤ gk := hk1
      have sz3 : y3.heap.size ≤ gl := hg1
      have LZ : Hid (Z.heap.size ≤ ga) := ha1
      have hk5 : y2.heap.size ≤ gk := sz2
      have hz5 : Z.heap.size ≤ y2.heap.size := by omega
      have ne1 : ga < gb := by omega
      have ne2 : gb < gk := by omega
      have ne3 : gk < gl := by omega
      have hgl : gl < y4.heap.size := hg2
      have EN : Hid (N = j + 1) := eN
      have hN : N ≤ 51 := by omega
      clear ha1 ha2 hb1 hb2 hk1 hk2 hg1 hg2 hbk sz1 sz2 sz3 hlt c1 eN
      go_wp2_with fail
      go_loopw [86] (fun i wx => ∃ (q : Nat) (xs : List Value), q ≤ j ∧ i = .int .i64 q ∧ wx.ownsRow Z.heap.size 31 4 (.slice (some ⟨ga, 0, none⟩) j pa) j xs ∧ (∀ i, i < q → xs[i * 4 + 1]? = some (.int .i64 (-5))) ∧ Same (fun b => b = ga) y4 wx) (fun i _ => j - (intOf i).toNat)
      case atStart => exact ⟨0, _, Nat.zero_le _, rfl, OA.out, fun i hi => by omega, Same.refl _ _⟩
      case round =>
        obtain ⟨q, xs, hq, rfl, oa, hx, ss⟩ := hrel
        have OX : Hid (wr.ownsRow Z.heap.size 31 4 (.slice (some ⟨ga, 0, none⟩) j pa) j xs) := oa
        have HX : Hid (∀ i, i < q → xs[i * 4 + 1]? = some (.int .i64 (-5))) := hx
        have SS : Hid (Same (fun b => b = ga) y4 wr) := ss
        clear oa hx ss
        by_cases hlq : q < j
        · have c2 : decide ((q : Int) < (j : Int)) = true := by simp only [decide_eq_true_eq]; omega
          have c3 : (q : Int) < (j : Int) := by omega
          have c4 : (0 : Int) ≤ (q : Int) := by omega
          obtain ⟨u0, -, m0⟩ := row_cell OX.out (j := q * 4) (by omega)
          obtain ⟨u1, -, m1⟩ := row_cell OX.out (j := q * 4 + 1) (by omega)
          obtain ⟨u2, -, m2⟩ := row_cell OX.out (j := q * 4 + 2) (by omega)
          obtain ⟨u3, -, m3⟩ := row_cell OX.out (j := q * 4 + 3) (by omega)
          have f0 : wr.frozen? ⟨ga, q * 4, none⟩ = false := OX.out.frozenAt (q * 4)
          have f1 : wr.frozen? ⟨ga, q * 4 + 1, none⟩ = false := OX.out.frozenAt (q * 4 + 1)
          have f2 : wr.frozen? ⟨ga, q * 4 + 2, none⟩ = false := OX.out.frozenAt (q * 4 + 2)
          have f3 : wr.frozen? ⟨ga, q * 4 + 3, none⟩ = false := OX.out.frozenAt (q * 4 + 3)
          have NX : Hid _ := row_put4 OX.out (q * 4) (.int .i64 0) (.int .i64 (-5)) (.bool false) (.string ⟨#[]⟩)
          have NS : Hid _ := same_put4 (w := wr) (g := ga) (q * 4) (.int .i64 0) (.int .i64 (-5)) (.bool false) (.string ⟨#[]⟩)
          have NH : Hid (∀ i, i < q + 1 → ((((xs.set (q * 4) (.int .i64 0)).set (q * 4 + 1) (.int .i64 (-5))).set (q * 4 + 2) (.bool false)).set (q * 4 + 3) (.string ⟨#[]⟩))[i * 4 + 1]? = some (.int .i64 (-5))) := fun i hi => by
            by_cases hiq : i = q
            · subst hiq
              exact set4_one (by rw [OX.out.1]; omega) _ _ _ _
            · rw [set4_other (by omega)]
              exact HX.out i (by omega)
          go_wp2_with fail
          go_roundw
          case rel => exact ⟨q + 1, _, by omega, by simp, NX.out, NH.out, Same.trans' SS.out NS.out⟩
          case measure => simp only [intOf]; omega
        · have c2 : decide ((q : Int) < (j : Int)) = false := by simp only [decide_eq_false_iff_not]; omega
          obtain rfl : j = q := by omega
          rename World => y5
          have OK5 : Hid _ := row_kept OK.out SS.out (fun k hk e => by simp only [Value.ownBlock, Option.some.injEq] at hk; omega)
          have OX5 : Hid _ := OX.out
          have SS5 : Hid (Same (fun b => b = ga) y4 y5) := SS.out
          have HX5 : Hid (∀ i, i < j → xs[i * 4 + 1]? = some (.int .i64 (-5))) := HX.out
          clear OX SS HX c2 hlq
          go_wp2_with fail
          go_loopw [96] (fun i wx => ∃ (q : Nat) (zs : List Value), q ≤ N ∧ i = .int .i64 q ∧ wx.ownsRow y2.heap.size 9 1 (.slice (some ⟨gk, 0, none⟩) N pk) N zs ∧ (∀ i, i < q → zs[i]? = some (.string ⟨#[63]⟩)) ∧ Same (fun b => b = gk) y5 wx) (fun i _ => N - (intOf i).toNat)
          case atStart => exact ⟨0, _, Nat.zero_le _, rfl, OK5.out, fun i hi => by omega, Same.refl _ _⟩
          case round =>
            obtain ⟨q, zs, hq, rfl, oa, hx, ss⟩ := hrel
            have OX : Hid (wr.ownsRow y2.heap.size 9 1 (.slice (some ⟨gk, 0, none⟩) N pk) N zs) := oa
            have HX : Hid (∀ i, i < q → zs[i]? = some (.string ⟨#[63]⟩)) := hx
            have SS : Hid (Same (fun b => b = gk) y5 wr) := ss
            clear oa hx ss
            by_cases hlq : q < N
            · have c2 : decide ((q : Int) < (N : Int)) = true := by simp only [decide_eq_true_eq]; omega
              have c3 : (q : Int) < (N : Int) := by omega
              have c4 : (0 : Int) ≤ (q : Int) := by omega
              obtain ⟨u0, -, m0⟩ := row_cell OX.out (j := q) (by omega)
              have f0 : wr.frozen? ⟨gk, q, none⟩ = false := OX.out.frozenAt q
              have NX : Hid _ := (World.ownsRow.stored OX.out q (.string ⟨#[63]⟩)).1
              have NS : Hid _ := Same.setCell (S := fun b => b = gk) (Same.refl _ wr) ⟨gk, q, none⟩ (.inr rfl) (.string ⟨#[63]⟩)
              have NH : Hid (∀ i, i < q + 1 → (zs.set q (.string ⟨#[63]⟩))[i]? = some (.string ⟨#[63]⟩)) := fun i hi => by
                by_cases hiq : i = q
                · subst hiq
                  exact List.getElem?_set_self (by rw [OX.out.1]; omega)
                · rw [List.getElem?_set_ne (by omega)]
                  exact HX.out i (by omega)
              go_wp2_with fail
              go_roundw
              case rel => exact ⟨q + 1, _, by omega, by simp, NX.out, NH.out, Same.trans' SS.out NS.out⟩
              case measure => simp only [intOf]; omega
            · have c2 : decide ((q : Int) < (N : Int)) = false := by simp only [decide_eq_false_iff_not]; omega
              obtain rfl : N = q := by omega
              rename World => y6
              have HZ6 : Hid (∀ i, i < N → zs[i]? = some (.string ⟨#[63]⟩)) := HX.out
              have KZ6 : Hid (Kept Z y6) := Same.trans (Same.trans KZ4.out SS5.out (fun i hi e => by have h9 : Z.heap.size ≤ ga := LZ.out; omega)) SS.out (fun i hi e => by have h9 : Z.heap.size ≤ ga := LZ.out; omega)
              have OA6 : Hid _ := row_kept OX5.out SS.out (fun k hk e => by simp only [Value.ownBlock, Option.some.injEq] at hk; omega)
              have SM6 : Hid (Same (fun k => k = ga ∨ k = gk) y4 y6) := Same.trans (Same.mono SS5.out (fun k _ h => .inl h)) SS.out (fun k _ h => .inr h)
              have hs6 : y4.heap.size ≤ y6.heap.size := Nat.le_trans SS5.out.size SS.out.size
              have OK6 : Hid (y6.ownsRow y2.heap.size 9 1 (.slice (some ⟨gk, 0, none⟩) N pk) N zs) := OX.out
              clear OX SS HX c2 hlq OX5 SS5 OK5 OA OK KZ4
              have HAP : Hid (∀ ty, ∃ v' w', (Builtin.append_ #[41, 41] ty #[.slice (some ⟨ga, 0, none⟩) j pa, .slice (some ⟨y6.heap.size, 0, none⟩) 2 2]).run Try.prog (y6.alloc (.cells #[.int .i64 0, .int .i64 (-6), .bool false, .string ⟨#[]⟩, .int .i64 0, .int .i64 (-6), .bool false, .string ⟨#[]⟩] 31 (0, 0))) = .ok v' w' ∧ ∃ g' c', v' = .slice (some ⟨g', 0, none⟩) (j + 2) c' ∧ w'.ownsRow Z.heap.size 31 4 v' (j + 2) (xs ++ two6) ∧ Same (fun k => k = ga) y6 w' ∧ (g' = ga ∨ y6.heap.size ≤ g')) := fun ty => by
                have k0 : Kept y6 (y6.alloc (.cells #[.int .i64 0, .int .i64 (-6), .bool false, .string ⟨#[]⟩, .int .i64 0, .int .i64 (-6), .bool false, .string ⟨#[]⟩] 31 (0, 0))) := (Same.refl _ y6).alloc _
                obtain ⟨v', w', hr, g', c', e1, r1, r2, r3⟩ := app_two6 (row_kept OA6.out k0 (fun _ _ e => e)) (by omega) (heap_new y6 _) (by rw [World.size_alloc]; have := KZ6.out.size; omega) ty
                rw [World.size_alloc] at r3
                exact ⟨v', w', hr, g', c', e1, r1, (k0.to _).trans' r2, r3.imp id (fun h => by omega)⟩
              go_upto_region 28 with (at_builtin; refine wpList_app rfl (.tmp 103) (.tmp 106) 41 rfl _ _ rfl rfl _ HAP.out ?_; rintro v7 y7 ⟨gc, pc, rfl, o7, s7, n7⟩)
              have O7 : Hid (y7.ownsRow Z.heap.size 31 4 (.slice (some ⟨gc, 0, none⟩) (j + 2) pc) (j + 2) (xs ++ two6)) := o7
              have S7 : Hid (Same (fun k => k = ga) y6 y7) := s7
              have ne4 : gc ≠ gk := by rcases n7 with h | h <;> omega
              have OK7 : Hid (y7.ownsRow y2.heap.size 9 1 (.slice (some ⟨gk, 0, none⟩) N pk) N zs) := row_kept OK6.out s7 (fun k hk e => by simp only [Value.ownBlock, Option.some.injEq] at hk; omega)
              have XL : Hid (xs.length = j * 4) := OA6.out.1
              have hb7 : y2.heap.size ≤ y7.heap.size := by have := s7.size; omega
              clear o7 s7 n7 HAP OK6 OA6
              have HAP2 : Hid (∀ ty, ∃ v' w', (Builtin.append_ #[35, 35] ty #[.slice (some ⟨gk, 0, none⟩) N pk, .slice (some ⟨y7.heap.size, 0, none⟩) 2 2]).run Try.prog (y7.alloc (.cells #[.string ⟨#[33]⟩, .string ⟨#[33]⟩] 9 (0, 0))) = .ok v' w' ∧ ∃ g' c', v' = .slice (some ⟨g', 0, none⟩) (N + 2) c' ∧ w'.ownsRow y2.heap.size 9 1 v' (N + 2) (zs ++ two33) ∧ Same (fun k => k = gk) y7 w') := fun ty => by
                have k0 : Kept y7 (y7.alloc (.cells #[.string ⟨#[33]⟩, .string ⟨#[33]⟩] 9 (0, 0))) := (Same.refl _ y7).alloc _
                obtain ⟨v', w', hr, g', c', e1, r1, r2⟩ := app_two33 (row_kept OK7.out k0 (fun _ _ e => e)) (by omega) (heap_new y7 _) (by rw [World.size_alloc]; omega) ty
                exact ⟨v', w', hr, g', c', e1, r1, (k0.to _).trans' r2⟩
              go_upto_region 29 with (at_builtin; refine wpList_app rfl (.tmp 108) (.tmp 109) 35 rfl _ _ rfl rfl _ HAP2.out ?_; rintro v8 y8 ⟨gm, pm, rfl, o8, s8⟩)
              have hZa : Z.heap.size ≤ ga := LZ.out
              have OC8 : Hid (y8.ownsRow Z.heap.size 31 4 (.slice (some ⟨gc, 0, none⟩) (j + 2) pc) (j + 2) (xs ++ two6)) := row_kept O7.out s8 (fun k hk e => by simp only [Value.ownBlock, Option.some.injEq] at hk; omega)
              have KZ8 : Hid (Kept Z y8) := Same.trans (Same.trans KZ6.out S7.out (fun i hi e => by omega)) s8 (fun i hi e => by omega)
              have SM8 : Hid (Same (fun k => k = ga ∨ k = gk) y4 y8) := Same.trans (Same.trans SM6.out S7.out (fun k _ h => .inl h)) s8 (fun k _ h => .inr h)
              have OB8 : Hid (y8.ownsRow y1.heap.size 31 4 (.slice (some ⟨gb, 0, none⟩) j pb) j (vcs ((List.range j).map vz))) := row_kept OB.out SM8.out (fun k hk e => by simp only [Value.ownBlock, Option.some.injEq] at hk; omega)
              have OL8 : Hid (y8.ownsRow y3.heap.size 9 1 (.slice (some ⟨gl, 0, none⟩) N pl) N (l.map encStr)) := row_kept OL.out SM8.out (fun k hk e => by simp only [Value.ownBlock, Option.some.injEq] at hk; omega)
              have ZL : Hid (zs.length = N) := by
                have h9 := OK7.out.1
                show zs.length = N
                omega
              have HCW : Hid (∀ i, i < j → y8.cell? ⟨gc, i * 4 + 1, none⟩ = some (.int .i64 (-5))) := fun i hi => by
                rw [OC8.out.cellAt _ (by omega), List.getElem?_append_left (by rw [show xs.length = j * 4 from XL.out]; omega)]
                exact HX5.out i hi
              have HCN : Hid (y8.cell? ⟨gc, j * 4 + 1, none⟩ = some (.int .i64 (-6))) := by
                show y8.cell? ⟨gc, j * 4 + 1, none⟩ = some (.int .i64 (-6))
                rw [OC8.out.cellAt _ (by omega), List.getElem?_append_right (by rw [show xs.length = j * 4 from XL.out]; omega), show xs.length = j * 4 from XL.out, show j * 4 + 1 - j * 4 = 1 by omega]
                rfl
              have HMW : Hid (∀ i, i < N → y8.cell? ⟨gm, i, none⟩ = some (.string ⟨#[63]⟩)) := fun i hi => by
                rw [World.ownsRow.cellAt o8 _ (by omega), List.getElem?_append_left (by rw [show zs.length = N from ZL.out]; omega)]
                exact HZ6.out i hi
              have HBW : Hid (∀ i, i < j → y8.cell? ⟨gb, i * 4, none⟩ = some (.int .i64 (i : Int))) := fun i hi => by
                have h9 : ((List.range j).map vz)[i]? = some (vz i) := by rw [List.getElem?_map, List.getElem?_range hi]; rfl
                rw [OB8.out.cellAt _ (by omega)]
                exact vcs_get h9 0 (by decide)
              have HLW : Hid (∀ i, i < N → ∃ y : ByteArray, y8.cell? ⟨gl, i, none⟩ = some (.string y) ∧ y.toList ≠ [63]) := fun i hi => by
                obtain ⟨x, hx⟩ : ∃ x, l[i]? = some x := ⟨_, List.getElem?_eq_getElem (by omega)⟩
                refine ⟨⟨x.toArray⟩, ?_, ?_⟩
                · rw [OL8.out.cellAt _ (by omega), List.getElem?_map, hx]
                  rfl
                · rw [ByteArray.toList_mk]
                  exact keys_no h1 h2 HKL.out (List.mem_of_getElem? hx)
              have hcz : Z.heap.size ≤ gc ∧ gc < y8.heap.size := by
                obtain ⟨g9, c9, e9, a9, b9⟩ := row_some OC8.out (by omega)
                cases e9
                exact ⟨a9, b9⟩
              have hmz : Z.heap.size ≤ gm ∧ gm < y8.heap.size := by
                obtain ⟨g9, c9, e9, a9, b9⟩ := row_some o8 (by omega)
                cases e9
                have := KZ6.out.size
                have := KZ8.out.size
                exact ⟨by omega, b9⟩
              have hbz : Z.heap.size ≤ gb ∧ gb < y8.heap.size := by have := SM8.out.size; exact ⟨by omega, by omega⟩
              have hlz : Z.heap.size ≤ gl ∧ gl < y8.heap.size := by have := SM8.out.size; exact ⟨by omega, by omega⟩
              obtain ⟨J2, eJ⟩ : ∃ J, J = j + 2 := ⟨_, rfl⟩
              obtain ⟨N2, eN2⟩ : ∃ J, J = N + 2 := ⟨_, rfl⟩
              rw [← eJ, ← eN2]
              have b1 : (j : Int) < (J2 : Int) := by omega
              have b2 : (N : Int) < (N2 : Int) := by omega
              clear eJ eN2 o8 s8 OC8 SM8 SM6 S7 O7 OK7 HAP2 OB OL OB8 OL8 HX5 HZ6 XL ZL KZ6 ST2 K2 hs6 hb7 ne1 ne2 ne3 ne4 hgl hk5 hz5 hZa
              go_wp2_with fail
              go_loopw [113] (fun i wx => ∃ (q : Nat), q ≤ j ∧ i = .int .i64 q ∧ wx = y8) (fun i _ => j - (intOf i).toNat)
              case atStart => exact ⟨0, Nat.zero_le _, rfl, rfl⟩
              case round =>
                obtain ⟨q, hq, rfl, rfl⟩ := hrel
                by_cases hlq : q < j
                · have c2 : decide ((q : Int) < (j : Int)) = true := by simp only [decide_eq_true_eq]; omega
                  have c3 : (q : Int) < (j : Int) := by omega
                  have c4 : (0 : Int) ≤ (q : Int) := by omega
                  have c5 : (q : Int) < (J2 : Int) := by omega
                  have m0 := HBW.out q hlq
                  have m1 := HCW.out q hlq
                  have hbl := hbz.2
                  have hcl := hcz.2
                  have c6 : ((q : Int) != (q : Int)) = false := by simp
                  go_wp2_with fail
                  go_roundw
                  case rel => exact ⟨q + 1, by omega, by simp, by trivial⟩
                  case measure => simp only [intOf]; omega
                · have c2 : decide ((q : Int) < (j : Int)) = false := by simp only [decide_eq_false_iff_not]; omega
                  rename World => y8
                  have HI : Hid _ := install13 (St.on ST.out KZ8.out) kz (by decide) vh (by omega)
                  rw [code_h h2, inst_of (code_h h2)] at HI
                  unfold verV at HI
                  simp only at HI
                  have NF : Hid (∀ b, Z.heap.size ≤ b → ¬ F b) := fun b hb hf => by have := St.lt ST.out b hf; omega
                  have K8 : Hid (Kept w y8) := Same.trans' KK.out KZ8.out
                  go_wp2_with fail
                  refine Calls.mono HI.out ?_
                  rintro e y9 ⟨rfl, F9, st9, hF9, s9⟩
                  have HP : Hid _ := prune13 st9 200 (by rw [List.length_append]; simp only [List.length_cons, List.length_nil]; omega)
                  have HGD : Hid (Good (Mh j)) := st9.good
                  have HF9 : Hid (∀ b, F9 b → F b ∨ y8.heap.size ≤ b) := hF9
                  have S9 : Hid (Same F y8 y9) := s9
                  clear st9 hF9 s9 HI
                  go_wp2_with fail
                  refine Calls.mono HP.out ?_
                  rintro e y10 ⟨rfl, st10, s10⟩
                  have hpl := prn_length (Mh j) 200
                  have hml2 : (Mh j).length = 2 * j + 1 := by rw [List.length_append]; simp only [List.length_cons, List.length_nil]; omega
                  have hpl3 : (prn (Mh j) 200).length ≤ 5277655813324 := by omega
                  have HC : Hid _ := chain13 st10 kz (by decide) hpl3
                  rw [Mh_z h2 HGD.out] at HC
                  have S10 : Hid (Same F y8 y10) := Same.trans S9.out s10 (fun i hi hf => by
                    rcases HF9.out i hf with h | h
                    · exact h
                    · omega)
                  have K10 : Hid (Kept w y10) := Same.trans (Same.trans K8.out S9.out (fun i hi hf => by have := HF.out i hf; omega)) s10 (fun i hi hf => by
                    rcases HF9.out i hf with h | h
                    · have := HF.out i h; omega
                    · have := K8.out.size; omega)
                  have ST10 : Hid (St F9 y10 sb (prn (Mh j) 200)) := st10
                  clear st10 s10 HP S9
                  go_wp2_with fail
                  refine Calls.mono HC.out ?_
                  rintro e y11 ⟨v11, rfl, o11, k11⟩
                  obtain ⟨gd, pd, rfl, -, hdl⟩ := row_some o11 (by decide)
                  have dc : y11.cell? ⟨gd, 0, none⟩ = some (.int .i64 100) := (World.ownsRow.cellAt o11 0 (by decide)).trans rfl
                  have HK : Hid _ := keys13 (St.on ST10.out k11) hpl3
                  have K11 : Hid (Kept w y11) := Same.trans' K10.out k11
                  have S11 : Hid (Same F y8 y11) := Same.trans' S10.out (k11.to F)
                  have mc : y11.cell? ⟨gc, j * 4 + 1, none⟩ = some (.int .i64 (-6)) := (S11.out.cell (p := ⟨gc, j * 4 + 1, none⟩) hcz.2 (NF.out gc hcz.1)).trans HCN.out
                  have HM11 : Hid (∀ i, i < N → y11.cell? ⟨gm, i, none⟩ = some (.string ⟨#[63]⟩)) := fun i hi => (S11.out.cell (p := ⟨gm, i, none⟩) hmz.2 (NF.out gm hmz.1)).trans (HMW.out i hi)
                  have HL11 : Hid (∀ i, i < N → ∃ y : ByteArray, y11.cell? ⟨gl, i, none⟩ = some (.string y) ∧ y.toList ≠ [63]) := fun i hi => by
                    obtain ⟨y, hy, hne⟩ := HLW.out i hi
                    exact ⟨y, (S11.out.cell (p := ⟨gl, i, none⟩) hlz.2 (NF.out gl hlz.1)).trans hy, hne⟩
                  have hc11 : gc < y11.heap.size := Nat.lt_of_lt_of_le hcz.2 S11.out.size
                  have hm11 : gm < y11.heap.size := Nat.lt_of_lt_of_le hmz.2 S11.out.size
                  have hl11 : gl < y11.heap.size := Nat.lt_of_lt_of_le hlz.2 S11.out.size
                  have HKC : Hid (∀ l', KeysOf (prn (Mh j) 200) l' → l'.length = N) := fun l' hl' => by
                    have h9 := keys_count h1 h2 (Mh_keys h1 (prn_keys HGD.out hl'))
                    have h8 : N = j + 1 := EN.out
                    omega
                  clear o11 k11 HC S10 HMW HLW HCN HCW HBW ST10 K10 hpl hml2 hpl3
                  go_wp2_with fail
                  go_loopw [141] (fun i wx => ∃ (q : Nat), q ≤ N ∧ i = .int .i64 q ∧ wx = y11) (fun i _ => N - (intOf i).toNat)
                  case atStart => exact ⟨0, Nat.zero_le _, rfl, rfl⟩
                  case round =>
                    obtain ⟨q, hq, rfl, rfl⟩ := hrel
                    by_cases hlq : q < N
                    · have c7 : decide ((q : Int) < (N : Int)) = true := by simp only [decide_eq_true_eq]; omega
                      have c3 : (q : Int) < (N : Int) := by omega
                      have c4 : (0 : Int) ≤ (q : Int) := by omega
                      have c5 : (q : Int) < (N2 : Int) := by omega
                      obtain ⟨y, m0, hne⟩ := HL11.out q hlq
                      have m1 := HM11.out q hlq
                      have c8 : (y.toList == ByteArray.toList ⟨#[63]⟩) = false := by
                        rw [show ByteArray.toList ⟨#[63]⟩ = [63] by rw [ByteArray.toList_eq]]
                        exact beq_eq_false_iff_ne.2 hne
                      have c9 : (y.toList == [63]) = false := beq_eq_false_iff_ne.2 hne
                      go_wp2_with fail
                      go_roundw
                      case rel => exact ⟨q + 1, by omega, by simp, by trivial⟩
                      case measure => simp only [intOf]; omega
                    · have c7 : decide ((q : Int) < (N : Int)) = false := by simp only [decide_eq_false_iff_not]; omega
                      have b3 : (0 : Int) ≤ (j : Int) := by omega
                      have b4 : ((N : Int) == (N : Int)) = true := by simp
                      go_wp2_with fail
                      refine Calls.mono HK.out ?_
                      rintro e y12 ⟨v12, l12, rfl, kl12, o12, k12⟩
                      obtain ⟨a12, p12, rfl, -⟩ := OwnS.strs o12
                      rw [HKC.out _ kl12]
                      have K12 : Hid (Kept w _) := Same.trans' K11.out k12
                      clear o12 k12 kl12 HK
                      go_wp2_with fail
                      go_ret
                      exact ⟨rfl, K12.out⟩
end Go.Proofs.Ytnjpbagfbklofaa
