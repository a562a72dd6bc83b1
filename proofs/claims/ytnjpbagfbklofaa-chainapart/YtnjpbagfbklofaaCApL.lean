/- What is proved: the law that keys have nothing to do with one another answers true; the script lies in memory. -/
import Derived.Test.YtnjpbagfbklofaaCTwo
import Derived.Test.YtnjpbagfbklofaaCSeenL
namespace Go.Proofs.Ytnjpbagfbklofaa
open Go.RowKit

theorem eqs_true {a b : ByteArray} (h : a.toList = b.toList) : (a.toList == b.toList) = true := by simpa using h
theorem eqs_false {a b : ByteArray} (h : a.toList ≠ b.toList) : (a.toList == b.toList) = false := by simpa using h
set_option maxRecDepth 100000 in
set_option maxHeartbeats 3200000 in
theorem apart_law (w : World) (ad : Option Addr) (cap : Nat) (s : List OpC) (a b : ByteArray) (t : Int) (hl : OpsAt w ad s) (hn : s.length ≤ 1954687338268) (ha : a.size ≤ maxLen) (hb : b.size ≤ maxLen) :
    Calls Try.prog 7 #[.slice ad s.length cap, .string a, .string b, .int .i64 t] w fun e w' => e = .returned (.bool true) ∧ Kept w w' := by
  have HAN : Hid _ := anchor13_any w
  have HL : Hid _ := hl
  have HA : Hid _ := ha
  have HB : Hid _ := hb
  obtain ⟨n, en⟩ : ∃ n, n = s.length := ⟨_, rfl⟩
  rw [← en] at hn ⊢
  have EN : Hid _ := en
  clear hl en ha hb
  go_enter Try.func7, Try.ntmps7
  go_wp2_with fail
  refine Calls.mono HAN.out ?_
  rintro e w1 ⟨rfl, k1⟩
  have K1 : Hid _ := k1
  have HN1 : Hid _ := new13 w1
  clear k1 HAN
  go_wp2_with fail
  refine Calls.mono HN1.out ?_
  rintro e w2 ⟨rfl, st2, k2⟩
  have ST2 : Hid _ := st2
  have K2 : Hid _ := k2
  have HN2 : Hid _ := new13 w2
  clear HN1 st2 k2
  go_wp2_with fail
  refine Calls.mono HN2.out ?_
  rintro e w3 ⟨rfl, st3, k3⟩
  have T0 : Hid _ := Two.new ST2.out K2.out st3 (fun x hx => hx.1) k3
  clear HN2 st3 k3
  generalize w1.heap.size + 2 = sb at *
  generalize w2.heap.size + 2 = ob at *
  by_cases hab : a.toList = b.toList
  · have e0 := eqs_true hab
    clear hab
    go_wp2_with fail
    go_ret
    exact ⟨rfl, Same.trans' K1.out (Two.kept T0.out)⟩
  · have e0 := eqs_false hab
    have e1 : (b.toList == a.toList) = false := eqs_false (fun e => hab e.symm)
    have HAB : Hid _ := hab
    clear hab
    go_wp2_with fail
    go_loopw [34] (fun i wr => ∃ (j : Nat) (A B : List En) (F G : Nat → Prop), j ≤ n ∧ i = .int .i64 j ∧ Two w1 wr sb ob A B F G ∧ Ab a b A B j) (fun i _ => n - (intOf i).toNat)
    case atStart => exact ⟨0, [], [], _, _, Nat.zero_le _, rfl, T0.out, ⟨rfl, fun e he => by simp at he, Nat.le_refl _, Nat.le_refl _⟩⟩
    case round =>
      obtain ⟨j, A, B, F, G, hj, rfl, tw, ab⟩ := hrel
      have TW : Hid _ := tw
      have AB : Hid _ := ab
      have hlA := ab.lA
      have hlB := ab.lB
      clear tw ab
      by_cases hlt : j < n
      · have c1 : decide ((j : Int) < (n : Int)) = true := by simp only [decide_eq_true_eq]; omega
        have hlt2 : (j : Int) < (n : Int) := by omega
        obtain ⟨o, ho⟩ : ∃ o, s[j]? = some o := ⟨_, List.getElem?_eq_getElem (by rw [← show n = s.length from EN.out]; exact hlt)⟩
        obtain ⟨bb, off, rfl, hbb, q0, q1, q2, q3, q4, q5, q6⟩ := (OpsAt.on HL.out (Same.trans' K1.out (Two.kept TW.out))) j o ho
        have TW1 : Hid _ := Two.on TW.out ((Same.refl _ wr).alloc (.cells #[.int .i64 o.kind, .int .i64 o.time, .string o.key, .int .i64 o.x.c, .int .i64 o.x.w, .bool o.x.f, .string o.x.v] 33 (0, 0)))
        have GO : Hid _ := heap_new wr (.cells #[.int .i64 o.kind, .int .i64 o.time, .string o.key, .int .i64 o.x.c, .int .i64 o.x.w, .bool o.x.f, .string o.x.v] 33 (0, 0))
        clear ho
        by_cases htm : o.time.tmod 2 = 0
        · have t1 : (o.time.tmod 2 == 0) = true := by simpa using htm
          have HI : Hid _ := install13 (Two.a TW1.out) b HB.out o.x (by omega)
          clear htm
          go_wp2_with fail
          refine Calls.mono HI.out ?_
          rintro e w4 ⟨rfl, ip⟩
          obtain ⟨F4, tw4⟩ := Two.ins TW1.out ip
          have AB4 : Hid _ := Ab.insB AB.out HAB.out o.x
          have TW4 : Hid _ := tw4
          clear ip tw4 HI
          generalize code A b o.x = cd
          generalize inst A b o.x = A4 at *
          obtain ⟨h2, eh⟩ : ∃ h2, h2 = n / 2 := ⟨_, rfl⟩
          have hq : (n : Int).tdiv 2 = (h2 : Int) := by rw [Int.tdiv_eq_ediv_of_nonneg (by omega)]; omega
          have hq3 : (n : Int) / 2 = (h2 : Int) := by omega
          have hq2 : IntKind.i64.wrap (h2 : Int) = (h2 : Int) := by rw [IntKind.wrap_i64]; omega
          clear eh
          by_cases hh : j = h2
          · subst hh
            have HP1 : Hid _ := prune13 (Two.a TW4.out) t (by have := Ab.lA AB4.out; omega)
            go_wp2_with fail
            refine Calls.mono HP1.out ?_
            rintro e w6 ⟨rfl, st6, s6⟩
            have tw6 := Two.prn TW4.out st6 s6
            have HP2 : Hid _ := prune13 (Two.b tw6) t (by have := Ab.lB AB4.out; omega)
            have TW6 : Hid _ := tw6
            clear HP1 st6 s6 tw6
            go_wp2_with fail
            refine Calls.mono HP2.out ?_
            rintro e w7 ⟨rfl, st7, s7⟩
            have TW7 : Hid _ := Two.swap (Two.prn (Two.swap TW6.out) st7 s7)
            have AB7 : Hid _ := Ab.prn AB4.out (St.good (Two.a TW4.out)) (St.good (Two.b TW4.out)) t
            clear HP2 st7 s7
            go_wp2_with fail
            go_roundw
            case rel => exact ⟨j + 1, _, _, _, _, by omega, by simp, TW7.out, AB7.out⟩
            case measure => simp only [intOf]; omega
          · have e5 : ((j : Int) == (h2 : Int)) = false := by
              have : ¬ ((j : Int) = (h2 : Int)) := by omega
              simpa using this
            have e6 : ¬ ((j : Int) = (h2 : Int)) := by omega
            go_wp2_with fail
            go_roundw
            case rel => exact ⟨j + 1, _, _, _, _, by omega, by simp, TW4.out, AB4.out⟩
            case measure => simp only [intOf]; omega
        · have t1 : (o.time.tmod 2 == 0) = false := by simpa using htm
          have HI : Hid _ := install13 (Two.a TW1.out) a HA.out o.x (by omega)
          clear htm
          go_wp2_with fail
          refine Calls.mono HI.out ?_
          rintro e w4 ⟨rfl, ip⟩
          have hgo4 : w4.heap[wr.heap.size]? = some (.cells #[.int .i64 o.kind, .int .i64 o.time, .string o.key, .int .i64 o.x.c, .int .i64 o.x.w, .bool o.x.f, .string o.x.v] 33 (0, 0)) := by
            obtain ⟨F4, -, -, s4⟩ := ip
            exact (s4.block _ (lt_of_heap GO.out) (fun hf => by have := St.lt (Two.a TW.out) _ hf; omega)).trans GO.out
          have g3 : w4.cell? ⟨wr.heap.size, 3, none⟩ = some (.int .i64 o.x.c) := (cell_of hgo4 3).trans rfl
          have g4 : w4.cell? ⟨wr.heap.size, 4, none⟩ = some (.int .i64 o.x.w) := (cell_of hgo4 4).trans rfl
          have g5 : w4.cell? ⟨wr.heap.size, 5, none⟩ = some (.bool o.x.f) := (cell_of hgo4 5).trans rfl
          have g6 : w4.cell? ⟨wr.heap.size, 6, none⟩ = some (.string o.x.v) := (cell_of hgo4 6).trans rfl
          have gl := lt_of_heap hgo4
          obtain ⟨F4, tw4⟩ := Two.ins TW1.out ip
          have TW4 : Hid _ := tw4
          have HI2 : Hid _ := install13 (Two.b tw4) a HA.out o.x (by omega)
          have hcd := code_congr (Ab.eq AB.out) o.x
          rw [← hcd] at HI2
          have AB5 : Hid _ := Ab.insA AB.out o.x
          clear ip tw4 HI hgo4 hcd
          generalize code A a o.x = cd at HI2 ⊢
          generalize inst A a o.x = A4 at *
          generalize inst B a o.x = B4 at *
          have ecd : (cd != cd) = false := by simp
          generalize wr.heap.size = gw at *
          go_wp2_with fail
          refine Calls.mono HI2.out ?_
          rintro e w5 ⟨rfl, ip5⟩
          obtain ⟨G5, tw5⟩ := Two.ins (Two.swap TW4.out) ip5
          have TW5 : Hid _ := Two.swap tw5
          clear ip5 tw5 HI2 g3 g4 g5 g6 gl
          obtain ⟨h2, eh⟩ : ∃ h2, h2 = n / 2 := ⟨_, rfl⟩
          have hq : (n : Int).tdiv 2 = (h2 : Int) := by rw [Int.tdiv_eq_ediv_of_nonneg (by omega)]; omega
          have hq3 : (n : Int) / 2 = (h2 : Int) := by omega
          have hq2 : IntKind.i64.wrap (h2 : Int) = (h2 : Int) := by rw [IntKind.wrap_i64]; omega
          clear eh
          by_cases hh : j = h2
          · subst hh
            have HP1 : Hid _ := prune13 (Two.a TW5.out) t (by have := Ab.lA AB5.out; omega)
            go_wp2_with fail
            refine Calls.mono HP1.out ?_
            rintro e w6 ⟨rfl, st6, s6⟩
            have tw6 := Two.prn TW5.out st6 s6
            have HP2 : Hid _ := prune13 (Two.b tw6) t (by have := Ab.lB AB5.out; omega)
            have TW6 : Hid _ := tw6
            clear HP1 st6 s6 tw6
            go_wp2_with fail
            refine Calls.mono HP2.out ?_
            rintro e w7 ⟨rfl, st7, s7⟩
            have TW7 : Hid _ := Two.swap (Two.prn (Two.swap TW6.out) st7 s7)
            have AB7 : Hid _ := Ab.prn AB5.out (St.good (Two.a TW5.out)) (St.good (Two.b TW5.out)) t
            clear HP2 st7 s7
            go_wp2_with fail
            go_roundw
            case rel => exact ⟨j + 1, _, _, _, _, by omega, by simp, TW7.out, AB7.out⟩
            case measure => simp only [intOf]; omega
          · have e5 : ((j : Int) == (h2 : Int)) = false := by
              have : ¬ ((j : Int) = (h2 : Int)) := by omega
              simpa using this
            have e6 : ¬ ((j : Int) = (h2 : Int)) := by omega
            go_wp2_with fail
            go_roundw
            case rel => exact ⟨j + 1, _, _, _, _, by omega, by simp, TW5.out, AB5.out⟩
            case measure => simp only [intOf]; omega
      · have c1 : decide ((j : Int) < (n : Int)) = false := by simp only [decide_eq_false_iff_not]; omega
        obtain rfl : j = n := by omega
        have HC1 : Hid _ := chain13 (Two.a TW.out) a HA.out (by omega)
        have hcnt := Ab.count AB.out HAB.out
        have heq := Ab.eq AB.out

        have HEQ : Hid _ := heq
        clear heq
        go_wp2_with fail
        refine Calls.mono HC1.out ?_
        rintro e w4 ⟨v4, rfl, o4, k4⟩
        obtain ⟨a4, c4, rfl, hv4, -⟩ := OwnV.vers o4
        have TW4 : Hid _ := Two.on TW.out k4
        have HC2 : Hid _ := chain13 (Two.b TW4.out) a HA.out (by omega)
        rw [← show ch A a = ch B a from HEQ.out] at HC2
        have V4 : Hid _ := hv4
        clear HC1 o4 hv4 k4
        go_wp2_with fail
        refine Calls.mono HC2.out ?_
        rintro e w5 ⟨v5, rfl, o5, k5⟩
        obtain ⟨a5, c5, rfl, hv5, -⟩ := OwnV.vers o5
        have TW5 : Hid _ := Two.on TW4.out k5
        have V5 : Hid _ := hv5
        have V4' : Hid _ := VersAt.on V4.out k5
        have HCN : Hid _ := count13 (Two.a TW5.out)
        have HC3 : Hid _ := chain13 (Two.a TW5.out) b HB.out (by omega)
        clear HC2 o5 hv5 k5 V4
        generalize hl : ch A a = l at *
        obtain ⟨m, em⟩ : ∃ m, m = l.length := ⟨_, rfl⟩
        rw [← em] at hcnt ⊢
        have EM : Hid _ := em
        have e3 : ((m : Int) != (m : Int)) = false := by simp
        clear em
        go_wp2_with fail
        refine Calls.mono HCN.out ?_
        rintro e w6 ⟨rfl, rfl⟩
        go_wp2_with fail
        refine Calls.mono HC3.out ?_
        rintro e w7 ⟨v7, rfl, o7, k7⟩
        obtain ⟨a7, c7, rfl, -⟩ := OwnV.vers o7
        have K7 : Hid (Kept w w7) := Same.trans' (Same.trans' K1.out (Two.kept TW5.out)) k7
        have V5' : Hid _ := VersAt.on V5.out k7
        have V4'' : Hid _ := VersAt.on V4'.out k7
        generalize hl2 : ch A b = l2 at *
        obtain ⟨m2, em2⟩ : ∃ m2, m2 = l2.length := ⟨_, rfl⟩
        rw [← em2] at hcnt ⊢
        have e4 : (m : Int) + (m2 : Int) = (A.length : Int) := by omega
        have e6 : IntKind.i64.wrap (A.length : Int) = (A.length : Int) := by rw [IntKind.wrap_i64]; omega
        have e7 : ((A.length : Int) != (A.length : Int)) = false := by simp
        have hm : m ≤ 5277655813324 := by omega
        generalize (A.length : Int) = al at *
        clear em2 hcnt o7 k7 HC3 HCN V4' V5 hl hl2
        go_wp2_with fail
        go_loopw [99] (fun i wr => ∃ q : Nat, q ≤ m ∧ i = .int .i64 q ∧ Kept w7 wr) (fun i _ => m - (intOf i).toNat)
        case atStart => exact ⟨0, Nat.zero_le _, rfl, Same.refl _ _⟩
        case round =>
          obtain ⟨q, hq, rfl, kk⟩ := hrel
          have KK : Hid _ := kk
          by_cases hlt2 : q < m
          · have c3 : decide ((q : Int) < (m : Int)) = true := by simp only [decide_eq_true_eq]; omega
            have hlt3 : (q : Int) < (m : Int) := by omega
            obtain ⟨x, hx⟩ : ∃ x, l[q]? = some x := ⟨_, List.getElem?_eq_getElem (by rw [← show m = l.length from EM.out]; exact hlt2)⟩
            obtain ⟨b1, off1, rfl, hb1, z0, z1, z2, z3⟩ := (VersAt.on V4''.out kk) q x hx
            have KW : Hid _ := (Same.refl (fun _ => False) wr).alloc (.cells #[.int .i64 x.c, .int .i64 x.w, .bool x.f, .string x.v] 31 (0, 0))
            have GX : Hid _ := heap_new wr (.cells #[.int .i64 x.c, .int .i64 x.w, .bool x.f, .string x.v] 31 (0, 0))
            obtain ⟨b2, off2, eb2, hb2, y0, y1, y2, y3⟩ := (VersAt.on V5'.out (Same.trans' kk KW.out)) q x hx
            have EB2 : Hid _ := eb2
            clear kk hx
            subst eb2
            have nq := neq_ver x
            go_upto_region 27 with fail
            generalize wr.alloc (.cells #[.int .i64 x.c, .int .i64 x.w, .bool x.f, .string x.v] 31 (0, 0)) = W at *
            generalize wr.heap.size = gx at GX ⊢
            obtain ⟨⟨u0, u1, u2, u3⟩, -⟩ := ver_obj GX.out
            have hgx := lt_of_heap GX.out
            clear z0 z1 z2 z3
            go_quiet (fail)
            go_wp2_with fail
            go_roundw
            case rel => exact ⟨q + 1, by omega, by simp, Same.drewN (Same.trans' KK.out KW.out) _⟩
            case measure => simp only [intOf]; omega
          · have c3 : decide ((q : Int) < (m : Int)) = false := by simp only [decide_eq_false_iff_not]; omega
            obtain rfl : q = m := by omega
            clear kk
            go_wp2_with fail
            go_ret
            exact ⟨rfl, Same.trans' K7.out KK.out⟩
end Go.Proofs.Ytnjpbagfbklofaa
