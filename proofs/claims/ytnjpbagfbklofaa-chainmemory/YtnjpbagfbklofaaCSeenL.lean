/- What is proved: the law on what At and After tell of a chain answers true; the script lies in memory. -/
import Derived.Test.YtnjpbagfbklofaaCOpen
namespace Go.Proofs.Ytnjpbagfbklofaa
open Go.RowKit

theorem eql_ver (x : Vn) (w : World) : (binOp .eql 31 (.agg #[.int .i64 x.c, .int .i64 x.w, .bool x.f, .string x.v]) (.agg #[.int .i64 x.c, .int .i64 x.w, .bool x.f, .string x.v])).run Try.prog w = .ok (.bool true) w := by
  go_simp
theorem neq_ver (x : Vn) (w : World) : (binOp .neq 31 (.agg #[.int .i64 x.c, .int .i64 x.w, .bool x.f, .string x.v]) (.agg #[.int .i64 x.c, .int .i64 x.w, .bool x.f, .string x.v])).run Try.prog w = .ok (.bool false) w := by
  go_simp
theorem at_some {l : List Vn} {t : Int} : (atM l t).isSome = decide (0 < cnt l t) := by
  unfold atM
  have := cnt_le l t
  split
  · rename_i h; simp [h]
  · rename_i h
    rw [List.getElem?_eq_getElem (by omega)]
    simp; omega
theorem af_some {l : List Vn} {t : Int} : (afM l t).isSome = decide (cnt l t < l.length) := by
  unfold afM
  by_cases h : cnt l t < l.length
  · rw [List.getElem?_eq_getElem h]; simp [h]
  · rw [List.getElem?_eq_none (by omega)]; simp [h]
set_option maxRecDepth 100000 in
set_option maxHeartbeats 3200000 in
theorem seen_law (w : World) (a : Option Addr) (cap : Nat) (s : List OpC) (k : ByteArray) (t : Int) (hl : OpsAt w a s) (hs : Small s) (hn : s.length ≤ 1954687338268) (hk : k.size ≤ maxLen) :
    Calls Try.prog 4 #[.slice a s.length cap, .string k, .int .i64 t] w fun e w' => e = .returned (.bool true) ∧ Kept w w' := by
  have HAN : Hid _ := anchor13_any w
  have HL : Hid _ := hl
  have HS : Hid _ := hs
  have HN : Hid _ := hn
  obtain ⟨n, en⟩ : ∃ n, n = s.length := ⟨_, rfl⟩
  rw [← en]
  have EN : Hid _ := en
  clear hl hs hn en
  go_enter Try.func4, Try.ntmps4
  go_wp2_with fail
  refine Calls.mono HAN.out ?_
  rintro e w1 ⟨rfl, k1⟩
  have K1 : Hid _ := k1
  have HFI : Hid _ := fill13 (cap := cap) (OpsAt.on HL.out k1) HS.out (Nat.le_trans HN.out (by decide))
  rw [← show n = s.length from EN.out] at HFI
  clear k1 HAN
  go_wp2_with fail
  refine Calls.mono HFI.out ?_
  rintro e w2 ⟨sb, F, rfl, st, -, k2⟩
  have hA : (fil [] s).length < 4611686018427387904 := by
    have := fil_length s []
    have hh := HN.out
    simp only [List.length_nil] at this
    omega
  have hA2 : (fil [] s).length ≤ 5277655813324 := by
    have := fil_length s []
    have hh := HN.out
    simp only [List.length_nil] at this
    omega
  have ST : Hid _ := st
  have K2 : Hid (Kept w w2) := Same.trans' K1.out k2
  have HAT : Hid _ := at13 st k hk t hA
  have HASC : Hid _ := st.good k
  clear HFI st k2
  have HAF : Hid (∀ W, Kept w2 W → _) := fun W k' => after13 (St.on ST.out k') k hk t hA
  have HCH : Hid (∀ W, Kept w2 W → _) := fun W k' => chain13 (St.on ST.out k') k hk hA2
  clear ST hA hk
  have hcl := ch_length_le (fil [] s) k
  generalize fil [] s = A at *
  generalize ch A k = l at *
  have hso := at_some (l := l) (t := t)
  have hsa := af_some (l := l) (t := t)
  generalize hoa : atM l t = oa at *
  generalize hob : afM l t = ob at *
  generalize hpa : ans oa = pa at *
  generalize hpb : ans ob = pb at *
  generalize hba : oa.isSome = ba at *
  generalize hbb : ob.isSome = bb at *
  have HOA : Hid (atM l t = oa ∧ ans oa = pa ∧ ba = decide (0 < cnt l t)) := ⟨hoa, hpa, hso⟩
  have HOB : Hid (afM l t = ob ∧ ans ob = pb ∧ bb = decide (cnt l t < l.length)) := ⟨hob, hpb, hsa⟩
  clear hoa hob hpa hpb hba hbb hso hsa
  go_wp2_with fail
  refine Calls.mono HAT.out ?_
  rintro e w3 ⟨rfl, k3⟩
  have K3 : Hid (Kept w2 (w3.alloc (.cells #[.int .i64 pa.c, .int .i64 pa.w, .bool pa.f, .string pa.v] 31 (0, 0)))) := k3.alloc _
  have G8 : Hid _ := heap_new w3 (.cells #[.int .i64 pa.c, .int .i64 pa.w, .bool pa.f, .string pa.v] 31 (0, 0))
  have HAF2 : Hid _ := HAF.out _ K3.out
  clear k3 HAT HAF
  go_wp2_with fail
  refine Calls.mono HAF2.out ?_
  rintro e w4 ⟨rfl, k4⟩
  have G8b : Hid _ := (k4.block _ (lt_of_heap G8.out) (fun e => e)).trans G8.out
  have G8c : Hid _ := (heap_old w4 (.cells #[.int .i64 pb.c, .int .i64 pb.w, .bool pb.f, .string pb.v] 31 (0, 0)) (lt_of_heap G8b.out)).trans G8b.out
  have G10 : Hid _ := heap_new w4 (.cells #[.int .i64 pb.c, .int .i64 pb.w, .bool pb.f, .string pb.v] 31 (0, 0))
  have K4 : Hid (Kept w2 (w4.alloc (.cells #[.int .i64 pb.c, .int .i64 pb.w, .bool pb.f, .string pb.v] 31 (0, 0)))) := (Same.trans' K3.out k4).alloc _
  have HCH2 : Hid _ := HCH.out _ K4.out
  clear k4 HAF2 HCH G8b G8 K3
  generalize w3.heap.size = g8 at *
  go_wp2_with fail
  generalize w4.heap.size = g10 at *
  refine Calls.mono HCH2.out ?_
  rintro e w5 ⟨v', rfl, o5, k5⟩
  obtain ⟨al, capl, rfl, hv5, -⟩ := OwnV.vers o5
  have K5 : Hid (Kept w w5) := Same.trans' (Same.trans' K2.out K4.out) k5
  have V5 : Hid _ := hv5
  have G8d : Hid _ := (k5.block _ (lt_of_heap G8c.out) (fun e => e)).trans G8c.out
  have G10d : Hid _ := (k5.block _ (lt_of_heap G10.out) (fun e => e)).trans G10.out
  clear o5 hv5 k5 HCH2 G8c G10 K4 K2 K1 HL HS HN EN
  obtain ⟨m, em⟩ : ∃ m, m = l.length := ⟨_, rfl⟩
  rw [← em]
  have EM : Hid _ := em
  have hm : m ≤ 5277655813324 := by omega
  obtain ⟨c, ec⟩ : ∃ c, c = cnt l t := ⟨_, rfl⟩
  have ECN : Hid _ := ec
  have hcm : c ≤ m := by rw [ec, em]; exact cnt_le l t
  clear hcl hA2 em ec
  go_wp2_with fail
  go_loopw [12, 13, 42] (fun s12 s13 s42 wr => ∃ j mj nj : Nat, j ≤ m ∧ s42 = .int .i64 j ∧ s12 = .int .i64 mj ∧ s13 = .int .i64 nj ∧ (mj = min j c ∧ nj = j - min j c) ∧ Kept w5 wr) (fun _ _ s42 _ => m - (intOf s42).toNat)
  case atStart => exact ⟨0, 0, 0, Nat.zero_le _, rfl, rfl, rfl, by omega, Same.refl _ _⟩
  case round =>
    obtain ⟨j, mj, nj, hj, rfl, rfl, rfl, hmn, kk⟩ := hrel
    have HMN : Hid _ := hmn
    obtain ⟨emj, enj⟩ := hmn
    by_cases hlt : j < m
    · have c1 : decide ((j : Int) < (m : Int)) = true := by simp only [decide_eq_true_eq]; omega
      have hlt2 : (j : Int) < (m : Int) := by omega
      obtain ⟨x, hx⟩ : ∃ x, l[j]? = some x := ⟨_, List.getElem?_eq_getElem (by rw [← show m = l.length from EM.out]; exact hlt)⟩
      obtain ⟨b, off, rfl, hb, q0, q1, q2, q3⟩ := (VersAt.on V5.out kk) j x hx
      have HX : Hid _ := hx
      have KK : Hid _ := kk
      have hjc := Asc.cnt_iff HASC.out t hx
      rw [← show c = cnt l t from ECN.out] at hjc
      clear hx kk
      by_cases hct : x.c ≤ t
      · have t1 : decide (x.c ≤ t) = true := decide_eq_true hct
        have hlc := hjc.2 hct
        have EMJ : Hid (j + 1 = min (j + 1) c ∧ nj = j + 1 - min (j + 1) c) := by
          show _ ∧ _
          omega
        clear emj enj hjc hlc HMN
        have KW : Hid _ := (Same.refl (fun _ => False) wr).alloc (.cells #[.int .i64 x.c, .int .i64 x.w, .bool x.f, .string x.v] 31 (0, 0))
        have GX : Hid _ := heap_new wr (.cells #[.int .i64 x.c, .int .i64 x.w, .bool x.f, .string x.v] 31 (0, 0))
        go_upto_region 16 with fail
        generalize wr.alloc (.cells #[.int .i64 x.c, .int .i64 x.w, .bool x.f, .string x.v] 31 (0, 0)) = W at KW GX ⊢
        generalize wr.heap.size = gx at GX ⊢
        obtain ⟨⟨u0, u1, u2, u3⟩, -⟩ := ver_obj GX.out
        have hgx := lt_of_heap GX.out
        by_cases hj0 : j = 0
        · have dj : ¬ (0 : Int) < (j : Int) := by omega
          have dj2 : decide ((0 : Int) < (j : Int)) = false := decide_eq_false dj
          have dj3 : ¬ 0 < j := by omega
          clear q0 q1 q2 q3 hj0
          go_quiet (fail)
          go_wp2_with fail
          go_roundw
          case rel => exact ⟨j + 1, j + 1, nj, by omega, by simp, by simp, rfl, EMJ.out, Same.drewN (Same.trans' KK.out KW.out) _⟩
          case measure => simp only [intOf]; omega
        · obtain ⟨i, ei⟩ : ∃ i, j = i + 1 := ⟨j - 1, by omega⟩
          obtain ⟨y, hy⟩ : ∃ y, l[i]? = some y := ⟨_, List.getElem?_eq_getElem (by rw [← show m = l.length from EM.out]; omega)⟩
          obtain ⟨b2, off2, eb, hb2, z0, z1, -, -⟩ := (VersAt.on V5.out (Same.trans' KK.out KW.out)) i y hy
          cases eb
          have hgt : gt x y = true := by
            have h1 := List.pairwise_iff_getElem.1 HASC.out i j (List.getElem?_eq_some_iff.1 hy).1 (List.getElem?_eq_some_iff.1 HX.out).1 (by omega)
            rw [(List.getElem?_eq_some_iff.1 hy).2, (List.getElem?_eq_some_iff.1 HX.out).2] at h1
            exact h1
          rw [gt_iff] at hgt
          have dj : (0 : Int) < (j : Int) := by omega
          have dj2 : decide ((0 : Int) < (j : Int)) = true := decide_eq_true dj
          have dj3 : 0 < j := by omega
          have dj4 : decide (0 < j) = true := decide_eq_true dj3
          have di4 : i < m := by omega
          have dw : IntKind.i64.wrap ((j : Int) - 1) = (i : Int) := by rw [IntKind.wrap_i64]; omega
          have di : (i : Int) < (m : Int) := by omega
          have di2 : decide ((i : Int) < (m : Int)) = true := decide_eq_true di
          have di3 : (0 : Int) ≤ (i : Int) := by omega
          have e1 : ¬ x.c < y.c := by omega
          have e2 : decide (x.c < y.c) = false := decide_eq_false e1
          clear hy ei q0 q1 q2 q3
          by_cases hyc : y.c = x.c
          · have e3 : (y.c == x.c) = true := by simpa using hyc
            have e4 : ¬ x.w ≤ y.w := by omega
            have e5 : decide (x.w ≤ y.w) = false := decide_eq_false e4
            clear hgt hyc
            go_quiet (fail)
            go_wp2_with fail
            go_roundw
            case rel => exact ⟨j + 1, j + 1, nj, by omega, by simp, by simp, rfl, EMJ.out, Same.drewN (Same.trans' KK.out KW.out) _⟩
            case measure => simp only [intOf]; omega
          · have e3 : (y.c == x.c) = false := by simpa using hyc
            clear hgt
            go_quiet (fail)
            go_wp2_with fail
            go_roundw
            case rel => exact ⟨j + 1, j + 1, nj, by omega, by simp, by simp, rfl, EMJ.out, Same.drewN (Same.trans' KK.out KW.out) _⟩
            case measure => simp only [intOf]; omega
      · have t1 : decide (x.c ≤ t) = false := decide_eq_false hct
        have hlc : ¬ j < c := fun h => hct (hjc.1 h)
        have hnj : (nj : Int) + 1 ≤ 9223372036854775807 := by omega
        have EMJ : Hid (mj = min (j + 1) c ∧ nj + 1 = j + 1 - min (j + 1) c) := by
          show _ ∧ _
          omega
        clear emj enj hjc hlc HMN
        have KW : Hid _ := (Same.refl (fun _ => False) wr).alloc (.cells #[.int .i64 x.c, .int .i64 x.w, .bool x.f, .string x.v] 31 (0, 0))
        have GX : Hid _ := heap_new wr (.cells #[.int .i64 x.c, .int .i64 x.w, .bool x.f, .string x.v] 31 (0, 0))
        go_upto_region 16 with fail
        generalize wr.alloc (.cells #[.int .i64 x.c, .int .i64 x.w, .bool x.f, .string x.v] 31 (0, 0)) = W at KW GX ⊢
        generalize wr.heap.size = gx at GX ⊢
        obtain ⟨⟨u0, u1, u2, u3⟩, -⟩ := ver_obj GX.out
        have hgx := lt_of_heap GX.out
        by_cases hj0 : j = 0
        · have dj : ¬ (0 : Int) < (j : Int) := by omega
          have dj2 : decide ((0 : Int) < (j : Int)) = false := decide_eq_false dj
          have dj3 : ¬ 0 < j := by omega
          clear q0 q1 q2 q3 hj0
          go_quiet (fail)
          go_wp2_with fail
          go_roundw
          case rel => exact ⟨j + 1, mj, nj + 1, by omega, by simp, rfl, by simp, EMJ.out, Same.drewN (Same.trans' KK.out KW.out) _⟩
          case measure => simp only [intOf]; omega
        · obtain ⟨i, ei⟩ : ∃ i, j = i + 1 := ⟨j - 1, by omega⟩
          obtain ⟨y, hy⟩ : ∃ y, l[i]? = some y := ⟨_, List.getElem?_eq_getElem (by rw [← show m = l.length from EM.out]; omega)⟩
          obtain ⟨b2, off2, eb, hb2, z0, z1, -, -⟩ := (VersAt.on V5.out (Same.trans' KK.out KW.out)) i y hy
          cases eb
          have hgt : gt x y = true := by
            have h1 := List.pairwise_iff_getElem.1 HASC.out i j (List.getElem?_eq_some_iff.1 hy).1 (List.getElem?_eq_some_iff.1 HX.out).1 (by omega)
            rw [(List.getElem?_eq_some_iff.1 hy).2, (List.getElem?_eq_some_iff.1 HX.out).2] at h1
            exact h1
          rw [gt_iff] at hgt
          have dj : (0 : Int) < (j : Int) := by omega
          have dj2 : decide ((0 : Int) < (j : Int)) = true := decide_eq_true dj
          have dj3 : 0 < j := by omega
          have dj4 : decide (0 < j) = true := decide_eq_true dj3
          have di4 : i < m := by omega
          have dw : IntKind.i64.wrap ((j : Int) - 1) = (i : Int) := by rw [IntKind.wrap_i64]; omega
          have di : (i : Int) < (m : Int) := by omega
          have di2 : decide ((i : Int) < (m : Int)) = true := decide_eq_true di
          have di3 : (0 : Int) ≤ (i : Int) := by omega
          have e1 : ¬ x.c < y.c := by omega
          have e2 : decide (x.c < y.c) = false := decide_eq_false e1
          clear hy ei q0 q1 q2 q3
          by_cases hyc : y.c = x.c
          · have e3 : (y.c == x.c) = true := by simpa using hyc
            have e4 : ¬ x.w ≤ y.w := by omega
            have e5 : decide (x.w ≤ y.w) = false := decide_eq_false e4
            clear hgt hyc
            go_quiet (fail)
            go_wp2_with fail
            go_roundw
            case rel => exact ⟨j + 1, mj, nj + 1, by omega, by simp, rfl, by simp, EMJ.out, Same.drewN (Same.trans' KK.out KW.out) _⟩
            case measure => simp only [intOf]; omega
          · have e3 : (y.c == x.c) = false := by simpa using hyc
            clear hgt
            go_quiet (fail)
            go_wp2_with fail
            go_roundw
            case rel => exact ⟨j + 1, mj, nj + 1, by omega, by simp, rfl, by simp, EMJ.out, Same.drewN (Same.trans' KK.out KW.out) _⟩
            case measure => simp only [intOf]; omega
    · have c1 : decide ((j : Int) < (m : Int)) = false := by simp only [decide_eq_false_iff_not]; omega
      obtain rfl : j = m := by omega
      have hmj : mj = c := by omega
      have hnj : nj = j - c := by omega
      have KK : Hid _ := kk
      clear emj enj kk HMN
      by_cases hc0 : c = 0
      · by_cases hc1 : c = j
        · obtain rfl : ba = false := by rw [HOA.out.2.2, ← show c = cnt l t from ECN.out]; exact decide_eq_false (by omega)
          have epa : pa = v0 := by
            rw [← HOA.out.2.1, ← HOA.out.1]
            unfold atM
            rw [if_pos (by rw [← show c = cnt l t from ECN.out]; exact hc0)]
            rfl
          subst epa
          have q8 := (KK.out.block _ (lt_of_heap G8d.out) (fun e => e)).trans G8d.out
          obtain ⟨⟨x0, x1, x2, x3⟩, -⟩ := ver_obj q8
          have x0' : wr.cell? ⟨g8, 0, none⟩ = some (.int .i64 0) := x0
          have x1' : wr.cell? ⟨g8, 1, none⟩ = some (.int .i64 0) := x1
          have x2' : wr.cell? ⟨g8, 2, none⟩ = some (.bool false) := x2
          have x3' : wr.cell? ⟨g8, 3, none⟩ = some (.string ⟨#[]⟩) := x3
          have nq : ∀ W, (binOp .neq 31 (.agg #[.int .i64 0, .int .i64 0, .bool false, .string ⟨#[]⟩]) (.agg #[.int .i64 0, .int .i64 0, .bool false, .string ⟨#[]⟩])).run Try.prog W = .ok (.bool false) W := neq_ver v0
          have hg8 := lt_of_heap q8
          have dc : ¬ (0 : Int) < (mj : Int) := by omega
          have dc2 : decide ((0 : Int) < (mj : Int)) = false := decide_eq_false dc
          have dc3 : ¬ 0 < mj := by omega
          have dc4 : decide (0 < mj) = false := decide_eq_false dc3
          clear x0 x1 x2 x3 q8
          obtain rfl : bb = false := by rw [HOB.out.2.2, ← show c = cnt l t from ECN.out, ← show j = l.length from EM.out]; exact decide_eq_false (by omega)
          have epb : pb = v0 := by
            rw [← HOB.out.2.1, ← HOB.out.1]
            unfold afM
            rw [List.getElem?_eq_none (by rw [← show c = cnt l t from ECN.out, ← show j = l.length from EM.out]; omega)]
            rfl
          subst epb
          have q10 := (KK.out.block _ (lt_of_heap G10d.out) (fun e => e)).trans G10d.out
          obtain ⟨⟨y0, y1, y2, y3⟩, -⟩ := ver_obj q10
          have y0' : wr.cell? ⟨g10, 0, none⟩ = some (.int .i64 0) := y0
          have y1' : wr.cell? ⟨g10, 1, none⟩ = some (.int .i64 0) := y1
          have y2' : wr.cell? ⟨g10, 2, none⟩ = some (.bool false) := y2
          have y3' : wr.cell? ⟨g10, 3, none⟩ = some (.string ⟨#[]⟩) := y3
          have eq : ∀ W, (binOp .eql 31 (.agg #[.int .i64 0, .int .i64 0, .bool false, .string ⟨#[]⟩]) (.agg #[.int .i64 0, .int .i64 0, .bool false, .string ⟨#[]⟩])).run Try.prog W = .ok (.bool true) W := eql_ver v0
          have hg10 := lt_of_heap q10
          have db : ¬ (0 : Int) < (nj : Int) := by omega
          have db2 : decide ((0 : Int) < (nj : Int)) = false := decide_eq_false db
          have db3 : ¬ 0 < nj := by omega
          have db4 : decide (0 < nj) = false := decide_eq_false db3
          clear y0 y1 y2 y3 q10
          have ksum : (mj : Int) + (nj : Int) = (j : Int) := by omega
          have kw : IntKind.i64.wrap (j : Int) = (j : Int) := by rw [IntKind.wrap_i64]; omega
          clear hmj hnj hcm hc0 hc1 hlt hj
          go_upto_region 21 with fail
          go_quiet (fail)
          go_upto_region 23 with fail
          go_quiet (fail)
          go_wp2_with fail
          go_ret
          exact ⟨rfl, by (repeat (first | exact Same.trans' K5.out KK.out | apply Same.drewN)); done⟩
        · obtain rfl : ba = false := by rw [HOA.out.2.2, ← show c = cnt l t from ECN.out]; exact decide_eq_false (by omega)
          have epa : pa = v0 := by
            rw [← HOA.out.2.1, ← HOA.out.1]
            unfold atM
            rw [if_pos (by rw [← show c = cnt l t from ECN.out]; exact hc0)]
            rfl
          subst epa
          have q8 := (KK.out.block _ (lt_of_heap G8d.out) (fun e => e)).trans G8d.out
          obtain ⟨⟨x0, x1, x2, x3⟩, -⟩ := ver_obj q8
          have x0' : wr.cell? ⟨g8, 0, none⟩ = some (.int .i64 0) := x0
          have x1' : wr.cell? ⟨g8, 1, none⟩ = some (.int .i64 0) := x1
          have x2' : wr.cell? ⟨g8, 2, none⟩ = some (.bool false) := x2
          have x3' : wr.cell? ⟨g8, 3, none⟩ = some (.string ⟨#[]⟩) := x3
          have nq : ∀ W, (binOp .neq 31 (.agg #[.int .i64 0, .int .i64 0, .bool false, .string ⟨#[]⟩]) (.agg #[.int .i64 0, .int .i64 0, .bool false, .string ⟨#[]⟩])).run Try.prog W = .ok (.bool false) W := neq_ver v0
          have hg8 := lt_of_heap q8
          have dc : ¬ (0 : Int) < (mj : Int) := by omega
          have dc2 : decide ((0 : Int) < (mj : Int)) = false := decide_eq_false dc
          have dc3 : ¬ 0 < mj := by omega
          have dc4 : decide (0 < mj) = false := decide_eq_false dc3
          clear x0 x1 x2 x3 q8
          obtain rfl : bb = true := by rw [HOB.out.2.2, ← show c = cnt l t from ECN.out, ← show j = l.length from EM.out]; exact decide_eq_true (by omega)
          have hpb : l[mj]? = some pb := by
            have h1 := HOB.out.1
            unfold afM at h1
            rw [← show c = cnt l t from ECN.out, ← hmj] at h1
            obtain ⟨z, hz⟩ : ∃ z, l[mj]? = some z := ⟨_, List.getElem?_eq_getElem (by rw [← show j = l.length from EM.out]; omega)⟩
            rw [hz, ← HOB.out.2.1, ← h1, hz]
            rfl
          obtain ⟨bq, offq, ebq, hbq, r0, r1, r2, r3⟩ := (VersAt.on V5.out KK.out) mj pb hpb
          subst ebq
          have q10 := (KK.out.block _ (lt_of_heap G10d.out) (fun e => e)).trans G10d.out
          obtain ⟨⟨y0, y1, y2, y3⟩, -⟩ := ver_obj q10
          have eq := eql_ver pb
          have hg10 := lt_of_heap q10
          have db : (0 : Int) < (nj : Int) := by omega
          have db2 : decide ((0 : Int) < (nj : Int)) = true := decide_eq_true db
          have db3 : 0 < nj := by omega
          have db4 : decide (0 < nj) = true := decide_eq_true db3
          have dm : (mj : Int) < (j : Int) := by omega
          have dm2 : decide ((mj : Int) < (j : Int)) = true := decide_eq_true dm
          have dm3 : (0 : Int) ≤ (mj : Int) := by omega
          have dm4 : mj < j := by omega
          clear hpb q10
          have ksum : (mj : Int) + (nj : Int) = (j : Int) := by omega
          have kw : IntKind.i64.wrap (j : Int) = (j : Int) := by rw [IntKind.wrap_i64]; omega
          clear hmj hnj hcm hc0 hc1 hlt hj
          go_upto_region 21 with fail
          go_quiet (fail)
          go_upto_region 23 with fail
          go_quiet (fail)
          go_wp2_with fail
          go_ret
          exact ⟨rfl, by (repeat (first | exact Same.trans' K5.out KK.out | apply Same.drewN)); done⟩
      · by_cases hc1 : c = j
        · obtain rfl : ba = true := by rw [HOA.out.2.2, ← show c = cnt l t from ECN.out]; exact decide_eq_true (by omega)
          obtain ⟨i, ei⟩ : ∃ i, c = i + 1 := ⟨c - 1, by omega⟩
          have hpa : l[i]? = some pa := by
            have h1 := HOA.out.1
            unfold atM at h1
            rw [if_neg (by rw [← show c = cnt l t from ECN.out]; exact hc0), ← show c = cnt l t from ECN.out, ei, Nat.add_sub_cancel] at h1
            obtain ⟨z, hz⟩ : ∃ z, l[i]? = some z := ⟨_, List.getElem?_eq_getElem (by rw [← show j = l.length from EM.out]; omega)⟩
            rw [hz, ← HOA.out.2.1, ← h1, hz]
            rfl
          obtain ⟨b, off, rfl, hb, q0, q1, q2, q3⟩ := (VersAt.on V5.out KK.out) i pa hpa
          have q8 := (KK.out.block _ (lt_of_heap G8d.out) (fun e => e)).trans G8d.out
          obtain ⟨⟨x0, x1, x2, x3⟩, -⟩ := ver_obj q8
          have nq := neq_ver pa
          have hg8 := lt_of_heap q8
          have dc : (0 : Int) < (mj : Int) := by omega
          have dc2 : decide ((0 : Int) < (mj : Int)) = true := decide_eq_true dc
          have dc3 : 0 < mj := by omega
          have dc4 : decide (0 < mj) = true := decide_eq_true dc3
          have dwq : IntKind.i64.wrap ((mj : Int) - 1) = (i : Int) := by rw [IntKind.wrap_i64]; omega
          have di : (i : Int) < (j : Int) := by omega
          have di2 : decide ((i : Int) < (j : Int)) = true := decide_eq_true di
          have di3 : (0 : Int) ≤ (i : Int) := by omega
          have di4 : i < j := by omega
          clear hpa q8 ei
          obtain rfl : bb = false := by rw [HOB.out.2.2, ← show c = cnt l t from ECN.out, ← show j = l.length from EM.out]; exact decide_eq_false (by omega)
          have epb : pb = v0 := by
            rw [← HOB.out.2.1, ← HOB.out.1]
            unfold afM
            rw [List.getElem?_eq_none (by rw [← show c = cnt l t from ECN.out, ← show j = l.length from EM.out]; omega)]
            rfl
          subst epb
          have q10 := (KK.out.block _ (lt_of_heap G10d.out) (fun e => e)).trans G10d.out
          obtain ⟨⟨y0, y1, y2, y3⟩, -⟩ := ver_obj q10
          have y0' : wr.cell? ⟨g10, 0, none⟩ = some (.int .i64 0) := y0
          have y1' : wr.cell? ⟨g10, 1, none⟩ = some (.int .i64 0) := y1
          have y2' : wr.cell? ⟨g10, 2, none⟩ = some (.bool false) := y2
          have y3' : wr.cell? ⟨g10, 3, none⟩ = some (.string ⟨#[]⟩) := y3
          have eq : ∀ W, (binOp .eql 31 (.agg #[.int .i64 0, .int .i64 0, .bool false, .string ⟨#[]⟩]) (.agg #[.int .i64 0, .int .i64 0, .bool false, .string ⟨#[]⟩])).run Try.prog W = .ok (.bool true) W := eql_ver v0
          have hg10 := lt_of_heap q10
          have db : ¬ (0 : Int) < (nj : Int) := by omega
          have db2 : decide ((0 : Int) < (nj : Int)) = false := decide_eq_false db
          have db3 : ¬ 0 < nj := by omega
          have db4 : decide (0 < nj) = false := decide_eq_false db3
          clear y0 y1 y2 y3 q10
          have ksum : (mj : Int) + (nj : Int) = (j : Int) := by omega
          have kw : IntKind.i64.wrap (j : Int) = (j : Int) := by rw [IntKind.wrap_i64]; omega
          clear hmj hnj hcm hc0 hc1 hlt hj
          go_upto_region 21 with fail
          go_quiet (fail)
          go_upto_region 23 with fail
          go_quiet (fail)
          go_wp2_with fail
          go_ret
          exact ⟨rfl, by (repeat (first | exact Same.trans' K5.out KK.out | apply Same.drewN)); done⟩
        · obtain rfl : ba = true := by rw [HOA.out.2.2, ← show c = cnt l t from ECN.out]; exact decide_eq_true (by omega)
          obtain ⟨i, ei⟩ : ∃ i, c = i + 1 := ⟨c - 1, by omega⟩
          have hpa : l[i]? = some pa := by
            have h1 := HOA.out.1
            unfold atM at h1
            rw [if_neg (by rw [← show c = cnt l t from ECN.out]; exact hc0), ← show c = cnt l t from ECN.out, ei, Nat.add_sub_cancel] at h1
            obtain ⟨z, hz⟩ : ∃ z, l[i]? = some z := ⟨_, List.getElem?_eq_getElem (by rw [← show j = l.length from EM.out]; omega)⟩
            rw [hz, ← HOA.out.2.1, ← h1, hz]
            rfl
          obtain ⟨b, off, rfl, hb, q0, q1, q2, q3⟩ := (VersAt.on V5.out KK.out) i pa hpa
          have q8 := (KK.out.block _ (lt_of_heap G8d.out) (fun e => e)).trans G8d.out
          obtain ⟨⟨x0, x1, x2, x3⟩, -⟩ := ver_obj q8
          have nq := neq_ver pa
          have hg8 := lt_of_heap q8
          have dc : (0 : Int) < (mj : Int) := by omega
          have dc2 : decide ((0 : Int) < (mj : Int)) = true := decide_eq_true dc
          have dc3 : 0 < mj := by omega
          have dc4 : decide (0 < mj) = true := decide_eq_true dc3
          have dwq : IntKind.i64.wrap ((mj : Int) - 1) = (i : Int) := by rw [IntKind.wrap_i64]; omega
          have di : (i : Int) < (j : Int) := by omega
          have di2 : decide ((i : Int) < (j : Int)) = true := decide_eq_true di
          have di3 : (0 : Int) ≤ (i : Int) := by omega
          have di4 : i < j := by omega
          clear hpa q8 ei
          obtain rfl : bb = true := by rw [HOB.out.2.2, ← show c = cnt l t from ECN.out, ← show j = l.length from EM.out]; exact decide_eq_true (by omega)
          have hpb : l[mj]? = some pb := by
            have h1 := HOB.out.1
            unfold afM at h1
            rw [← show c = cnt l t from ECN.out, ← hmj] at h1
            obtain ⟨z, hz⟩ : ∃ z, l[mj]? = some z := ⟨_, List.getElem?_eq_getElem (by rw [← show j = l.length from EM.out]; omega)⟩
            rw [hz, ← HOB.out.2.1, ← h1, hz]
            rfl
          obtain ⟨bq, offq, ebq, hbq, r0, r1, r2, r3⟩ := (VersAt.on V5.out KK.out) mj pb hpb
          cases ebq
          have q10 := (KK.out.block _ (lt_of_heap G10d.out) (fun e => e)).trans G10d.out
          obtain ⟨⟨y0, y1, y2, y3⟩, -⟩ := ver_obj q10
          have eq := eql_ver pb
          have hg10 := lt_of_heap q10
          have db : (0 : Int) < (nj : Int) := by omega
          have db2 : decide ((0 : Int) < (nj : Int)) = true := decide_eq_true db
          have db3 : 0 < nj := by omega
          have db4 : decide (0 < nj) = true := decide_eq_true db3
          have dm : (mj : Int) < (j : Int) := by omega
          have dm2 : decide ((mj : Int) < (j : Int)) = true := decide_eq_true dm
          have dm3 : (0 : Int) ≤ (mj : Int) := by omega
          have dm4 : mj < j := by omega
          clear hpb q10
          have ksum : (mj : Int) + (nj : Int) = (j : Int) := by omega
          have kw : IntKind.i64.wrap (j : Int) = (j : Int) := by rw [IntKind.wrap_i64]; omega
          clear hmj hnj hcm hc0 hc1 hlt hj
          go_upto_region 21 with fail
          go_quiet (fail)
          go_upto_region 23 with fail
          go_quiet (fail)
          go_wp2_with fail
          go_ret
          exact ⟨rfl, by (repeat (first | exact Same.trans' K5.out KK.out | apply Same.drewN)); done⟩
end Go.Proofs.Ytnjpbagfbklofaa
