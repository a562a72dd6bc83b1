/- What is proved: the law RulesRepeat answers true and leaves all that was there as it was; the log fits a machine's memory. -/
import Derived.Test.YtbjmdpfoeeadeaaJWks
import Derived.Test.YtbjmdpfoeeadeaaRRVal
namespace Go.Proofs.Ytbjmdpfoeeadeaa.Sw
open Go.RowKit

theorem count_next {l : List Vl} {j : Nat} {v : Vl} (h : l[j]? = some v) : (l.take (j + 1)).countP k9 = (l.take j).countP k9 + (if v.kd = 9 then 1 else 0) := by
  obtain ⟨hj, e⟩ := List.getElem?_eq_some_iff.1 h
  rw [List.take_succ_eq_append_getElem hj, List.countP_append, e]
  congr 1
  by_cases h9 : v.kd = 9
  · simp [k9, h9]
  · simp [k9, h9]
set_option maxRecDepth 100000 in
set_option maxHeartbeats 6400000 in
theorem repeat_law (l : List TxR) (a : Option Addr) (c : Nat) (w : World) (h : ArgL w a c l) :
    Calls Try.prog 7 #[.slice a l.length c] w fun e w' => e = .returned (.bool true) ∧ Kept w w' := by
  have HA : Hid (∀ W, _) := fun W => anchor17 W
  have HL : Hid (ArgL w a c l) := h
  have HW : Hid (l.length ≤ 4096 → (∀ t ∈ l.map TxR.t, Right t) → ∀ W, Kept w W → _) := fun h1 h2 W k => walk17 W a c l (h.txs.on k) h1 h2
  have HK : Hid (l.length ≤ 4096 → ∀ W, Kept w W → _) := fun h1 W k => walked17 W a c l (h.txs.on k) h1
  have hb9 := h.le
  obtain ⟨T, eT⟩ : ∃ T, T = l.map TxR.t := ⟨_, rfl⟩
  have ET : Hid (T = l.map TxR.t) := eT
  obtain ⟨n, en⟩ : ∃ n, n = l.length := ⟨_, rfl⟩
  have EN : Hid (n = l.length) := en
  have HTL : Hid (T.length = n) := by show T.length = n; rw [eT, List.length_map, en]
  rw [← eT] at HW HK
  rw [← en] at HW HK hb9 ⊢
  clear h en eT
  go_enter Try.func7, Try.ntmps7
  go_wp2_with fail
  refine Calls.mono (HA.out _) ?_
  rintro e W1 ⟨rfl, k1⟩
  have K1 : Hid (Kept w W1) := k1
  clear k1
  by_cases hbig : 4096 < n
  · have d0 : decide ((4096 : Int) < (n : Int)) = true := decide_eq_true (by omega)
    have d0' : (4096 : Int) < (n : Int) := by omega
    go_wp2_with fail
    go_ret
    exact ⟨rfl, K1.out⟩
  have d0 : decide ((4096 : Int) < (n : Int)) = false := decide_eq_false (by omega)
  have d0' : ¬ (4096 : Int) < (n : Int) := by omega
  have HN : Hid (n ≤ 4096) := by show n ≤ 4096; omega
  go_wp2_with fail
  clear d0 d0' hbig
  go_loopw [3, 20] (fun s3 s20 wr => ∃ (j : Nat), s20 = .int .i64 j ∧ j ≤ n ∧ s3 = .int .i64 (wnt T j : Nat) ∧ (∀ t ∈ T.take j, Right t) ∧ Kept w wr) (fun _ s20 _ => n - (intOf s20).toNat)
  case atStart => exact ⟨0, rfl, Nat.zero_le _, rfl, (fun t ht => by simp at ht), K1.out⟩
  case round =>
    obtain ⟨j, rfl, hj, rfl, hrj, kj⟩ := hrel
    rename World => WL
    have RJ : Hid (∀ t ∈ T.take j, Right t) := hrj
    have KJ : Hid (Kept w WL) := kj
    clear hrj kj
    by_cases hlt : j < n
    case pos =>
      have d1 : decide ((j : Int) < (n : Int)) = true := decide_eq_true (by omega)
      have hlt2 : (j : Int) < (n : Int) := by omega
      have hws : IntKind.i64.wrap ((j : Int) + 1) = (j : Int) + 1 := by have := HN.out; rw [IntKind.wrap_i64] <;> omega
      obtain ⟨r, hr⟩ : ∃ r, l[j]? = some r := ⟨_, List.getElem?_eq_getElem (by rw [← show n = _ from EN.out]; exact hlt)⟩
      obtain ⟨b, off, ea, hbl, -⟩ := (HL.out.txs.on KJ.out) j r hr
      subst ea
      obtain ⟨q0, q1, q2, q3, q4, q5, q6, q7⟩ := (HL.out.txs.on KJ.out).get hr
      have HTJ : Hid (T[j]? = some r.t) := by show T[j]? = _; rw [ET.out, List.getElem?_map, hr]; rfl
      have HV : Hid (∀ W, Kept w W → _) := fun W k => validR_any W r.t _ ((HL.out.each r (List.mem_of_getElem? hr)).on k).txa
      have HG : Hid (∀ W, Kept w W → ∀ k x, l[k]? = some x → b < W.heap.size ∧ W.cell? ⟨b, off + k * 8, none⟩ = some (.int .i64 x.t.f0) ∧ W.cell? ⟨b, off + k * 8 + 1, none⟩ = some (.int .i64 x.t.f1)) := fun W kw k x hx => by
        obtain ⟨x0, x1, -⟩ := (HL.out.txs.on kw).get hx
        obtain ⟨b', off', ea', hb', -⟩ := (HL.out.txs.on kw) k x hx
        cases ea'
        exact ⟨hb', x0, x1⟩
      clear hr
      unfold txV at HV
      generalize hon : r.t.ops.length = on at *
      go_wp2_with fail
      refine Calls.mono (HV.out _ (KJ.out.alloc _)) ?_
      rintro e W3 ⟨rfl, k3⟩
      have K3 : Hid (Kept w W3) := (KJ.out.alloc _).trans' k3
      have B3 : Hid (W3.heap[WL.heap.size]? = some (txO r.t r.a on r.c)) := (k3.block _ (by simp [World.size_alloc]) (fun e => e)).trans (heap_new _ _)
      clear k3 q0 q1 q2 q3 q4 q5 q6 q7 hbl HV
      generalize WL.heap.size = g3 at *
      by_cases hv : valid r.t = 0
      case neg =>
        have dv : (valid r.t != 0) = true := by simpa using hv
        generalize valid r.t = vt at *
        go_wp2_with fail
        go_ret
        exact ⟨rfl, K3.out⟩
      have HRT : Hid (Right r.t) := valid_zero.1 hv
      rw [hv]
      clear hv
      have z0 : ((0 : Int) != 0) = false := rfl
      have WL1 : Hid (wnt T j ≤ j) := wnt_le T j
      have WLN : Hid (wnt T (j + 1) = wnt T j + (if hitB T r.t j = true then 1 else 0)) := wnt_next HTJ.out
      have HH0 : Hid (hitB T r.t 0 = false) := hit_zero T r.t
      have HHN : Hid (∀ {k x}, l[k]? = some x → hitB T r.t (k + 1) = (hitB T r.t k || (x.t.f0 == r.t.f0 && x.t.f1 == r.t.f1))) := fun {k x} hx => hit_next (by rw [ET.out, List.getElem?_map, hx]; rfl)
      generalize hitB T r.t = hb at *
      go_wp2_with fail
      go_loopw [6, 7] (fun s6 s7 wr => ∃ (k : Nat), s7 = .int .i64 k ∧ k ≤ j ∧ s6 = .bool (hb k) ∧ Kept W3 wr) (fun _ s7 _ => j - (intOf s7).toNat)
      case atStart => exact ⟨0, rfl, Nat.zero_le _, by rw [HH0.out], Same.refl _ _⟩
      case round =>
        obtain ⟨k, rfl, hk, rfl, kk⟩ := hrel
        rename World => WM
        have KK : Hid (Kept W3 WM) := kk
        clear kk
        by_cases hlk : k < j
        case pos =>
          have e1 : decide ((k : Int) < (j : Int)) = true := decide_eq_true (by omega)
          have hlk2 : (k : Int) < (j : Int) := by omega
          have hkn : k < n := by omega
          have hkn2 : (k : Int) < (n : Int) := by omega
          have hwk : IntKind.i64.wrap ((k : Int) + 1) = (k : Int) + 1 := by have := HN.out; rw [IntKind.wrap_i64] <;> omega
          obtain ⟨x, hx⟩ : ∃ x, l[k]? = some x := ⟨_, List.getElem?_eq_getElem (by rw [← show n = _ from EN.out]; exact hkn)⟩
          obtain ⟨hbm, x0, x1⟩ := HG.out WM (K3.out.trans' KK.out) k x hx
          have BM : WM.heap[g3]? = some (txO r.t r.a on r.c) := (KK.out.block _ (lt_of_heap B3.out) (fun e => e)).trans B3.out
          obtain ⟨⟨y0, y1, -⟩, -⟩ := tx_obj BM
          have hgm := lt_of_heap BM
          have HNX : Hid (hb (k + 1) = (hb k || (x.t.f0 == r.t.f0 && x.t.f1 == r.t.f1))) := HHN.out hx
          clear hx BM
          generalize hb k = hk0 at *
          go_upto_region 15 with fail
          cases hk0 with
          | true =>
            go_quiet (fail)
            go_wp2_with fail
            go_roundw
            case rel => exact ⟨k + 1, by simp, hlk, (by rw [HNX.out]; rfl), (by (repeat (first | exact KK.out | apply Same.drew | apply Same.drewN)); done)⟩
            case measure => simp only [intOf]; omega
          | false =>
            cases c0 : (x.t.f0 == r.t.f0) with
            | false =>
              go_quiet (fail)
              go_wp2_with fail
              go_roundw
              case rel => exact ⟨k + 1, by simp, hlk, (by rw [HNX.out, c0]; rfl), (by (repeat (first | exact KK.out | apply Same.drew | apply Same.drewN)); done)⟩
              case measure => simp only [intOf]; omega
            | true =>
              go_quiet (fail)
              go_wp2_with fail
              go_roundw
              case rel => exact ⟨k + 1, by simp, hlk, (by rw [HNX.out, c0]; simp), (by (repeat (first | exact KK.out | apply Same.drew | apply Same.drewN)); done)⟩
              case measure => simp only [intOf]; omega
        obtain rfl : j = k := by omega
        have e1 : decide ((j : Int) < (j : Int)) = false := decide_eq_false (by omega)
        have BM : WM.heap[g3]? = some (txO r.t r.a on r.c) := (KK.out.block _ (lt_of_heap B3.out) (fun e => e)).trans B3.out
        have KM : Hid (Kept w WM) := K3.out.trans' KK.out
        have RJ2 : Hid (∀ t ∈ T.take (j + 1), Right t) := fun t ht => by
          obtain ⟨hj2, e2⟩ := List.getElem?_eq_some_iff.1 HTJ.out
          rw [List.take_succ_eq_append_getElem hj2, List.mem_append] at ht
          rcases ht with ht | ht
          · exact RJ.out t ht
          · rw [e2] at ht
            simp only [List.mem_cons, List.not_mem_nil, or_false] at ht
            rw [ht]
            exact HRT.out
        clear BM
        generalize hw1 : wnt T j = wj at *
        have hww : IntKind.i64.wrap ((wj : Int) + 1) = (wj : Int) + 1 := by have h1 := HN.out; have h2 := WL1.out; rw [IntKind.wrap_i64] <;> omega
        generalize hbj : hb j = bj at *
        cases bj with
        | true =>
          have w2 : wnt T (j + 1) = wj + 1 := by rw [WLN.out, if_pos rfl]
          have W2X : Hid _ := w2
          clear w2 hw1
          go_wp2_with fail
          go_roundw
          case rel => exact ⟨j + 1, by simp, hlt, by rw [W2X.out]; simp, RJ2.out, KM.out⟩
          case measure => simp only [intOf]; omega
        | false =>
          have w2 : wnt T (j + 1) = wj := by rw [WLN.out, if_neg (by decide)]; rfl
          have W2X : Hid _ := w2
          clear w2 hw1
          go_wp2_with fail
          go_roundw
          case rel => exact ⟨j + 1, by simp, hlt, by rw [W2X.out], RJ2.out, KM.out⟩
          case measure => simp only [intOf]; omega
    obtain rfl : n = j := by omega
    have d1 : decide ((n : Int) < (n : Int)) = false := decide_eq_false (by omega)
    have hT : T.take n = T := List.take_of_length_le (by rw [HTL.out]; exact Nat.le_refl _)
    have hRA := RJ.out
    rw [hT] at hRA
    have WK : Hid (∀ W, Kept w W → _) := HW.out HN.out hRA
    have WD : Hid (∀ W, Kept w W → _) := HK.out HN.out
    have HWN : Hid (wnt T n = (adj (SS T) n).countP k9) := by have h9 := wnt_all T; rw [HTL.out] at h9; exact h9
    have TLD : Hid (∀ v ∈ adj (SS T) n, ∃ (i k : Nat) (x y : TxR), l[i]? = some x ∧ l[k]? = some y ∧ v.tx = i ∧ v.wi = k ∧ x.t.f0 = y.t.f0 ∧ v.tt = x.t.f2 ∧ v.fr = y.t.f3) := fun v hv => by
      obtain ⟨i, k, t, x, h1, h2, h3⟩ := told (by rw [HTL.out]; exact Nat.le_refl _) hv
      rw [ET.out, List.getElem?_map, Option.map_eq_some_iff] at h1 h2
      obtain ⟨x1, g1, rfl⟩ := h1
      obtain ⟨x2, g2, rfl⟩ := h2
      exact ⟨i, k, x1, x2, g1, g2, h3⟩
    have LLN : Hid ((adj (SS T) n).length ≤ n) := adj_len _ _
    generalize adj (SS T) n = L at *
    clear hT hRA HW HK RJ
    generalize wnt T n = wn at *
    go_wp2_with fail
    refine Calls.mono (WK.out _ KJ.out) ?_
    rintro e W5 ⟨v5, rfl, o5, k5⟩
    obtain ⟨a5, m5, c5, ev, em⟩ : ∃ a m c, v5 = .slice a m c ∧ m = L.length := by
      obtain ⟨a, c, ev, -⟩ := row_shape o5
      exact ⟨_, _, _, ev, rfl⟩
    subst ev
    have O5 : Hid (OwnL WL.heap.size W5 (.slice a5 m5 c5) L) := o5
    have EM : Hid (m5 = L.length) := em
    have K5 : Hid (Kept w W5) := KJ.out.trans' k5
    clear o5 k5 em WK
    go_wp2_with fail
    go_loopw [10, 65] (fun s10 s65 wr => ∃ (j : Nat), s65 = .int .i64 j ∧ j ≤ m5 ∧ s10 = .int .i64 ((L.take j).countP k9 : Nat) ∧ Kept W5 wr) (fun _ s65 _ => m5 - (intOf s65).toNat)
    case atStart => exact ⟨0, rfl, Nat.zero_le _, rfl, Same.refl _ _⟩
    case round =>
      clear d1
      obtain ⟨j, rfl, hj, rfl, kj⟩ := hrel
      rename World => WM
      have KM : Hid (Kept W5 WM) := kj
      clear kj
      have HM5 : Hid (m5 ≤ 4096) := by have h1 := EM.out; have h2 := LLN.out; have h3 := HN.out; show m5 ≤ 4096; omega
      by_cases hlt : j < m5
      case pos =>
        have d1 : decide ((j : Int) < (m5 : Int)) = true := decide_eq_true (by omega)
        have hlt2 : (j : Int) < (m5 : Int) := by omega
        have hws : IntKind.i64.wrap ((j : Int) + 1) = (j : Int) + 1 := by have := HM5.out; rw [IntKind.wrap_i64] <;> omega
        obtain ⟨v, hv⟩ : ∃ v, L[j]? = some v := ⟨_, List.getElem?_eq_getElem (by rw [← show m5 = _ from EM.out]; exact hlt)⟩
        obtain ⟨ba, ea, hba, q0, q1, q2, q3, q4, q5, q6, q7, q8, q9, q10, q11⟩ := own_at (row_kept O5.out KM.out (fun _ _ e => e)) hv
        subst ea
        have CN : Hid _ := count_next hv
        have CL : Hid ((L.take j).countP k9 ≤ j) := Nat.le_trans List.countP_le_length (by rw [List.length_take]; omega)
        obtain ⟨i, k, x, y, hi, hk, t1, t2, t3, t4, t5⟩ := TLD.out v (List.mem_of_getElem? hv)
        have HTT : Hid (v.tx = i ∧ v.wi = k ∧ v.tt = x.t.f2 ∧ v.fr = y.t.f3) := ⟨t1, t2, t4, t5⟩
        have hin : i < n := by rw [show n = _ from EN.out]; exact (List.getElem?_eq_some_iff.1 hi).1
        have hkn : k < n := by rw [show n = _ from EN.out]; exact (List.getElem?_eq_some_iff.1 hk).1
        have HXI : Hid (l[i]? = some x) := hi
        have HYK : Hid (l[k]? = some y) := hk
        have HF0 : Hid (x.t.f0 = y.t.f0) := t3
        clear hv hi hk t1 t2 t3 t4 t5
        generalize (L.take j).countP k9 = cj at *
        have hwc : IntKind.i64.wrap ((cj : Int) + 1) = (cj : Int) + 1 := by have h1 := HM5.out; have h2 := CL.out; rw [IntKind.wrap_i64] <;> omega
        go_upto_if 71 with fail
        have GB : Hid _ := heap_new WM (vlO v)
        have KB : Hid (Kept W5 (WM.alloc (vlO v))) := KM.out.alloc _
        change Code.wp _ _ _ _ (WM.alloc (vlO v))
        generalize WM.alloc (vlO v) = W6 at *
        generalize WM.heap.size = g6 at GB ⊢
        clear q0 q1 q2 q3 q4 q5 q6 q7 q8 q9 q10 q11 hba
        obtain ⟨cn, ecn⟩ : ∃ cn, cn = (L.take (j + 1)).countP k9 := ⟨_, rfl⟩
        have ECN : Hid (cn = (L.take (j + 1)).countP k9) := ecn
        have ECJ : Hid (cn = cj + (if v.kd = 9 then 1 else 0)) := ecn.trans CN.out
        clear ecn
        go_cut [10] (fun s10 wx => s10 = .int .i64 (cn : Nat) ∧ wx = W6)
        case first =>
          by_cases h9 : v.kd = 9
          · have e9 : (v.kd == 9) = true := by simp [h9]
            have ec : cn = cj + 1 := by rw [ECJ.out, if_pos h9]
            have EC : Hid _ := ec
            clear ec h9
            go_wp2_with fail
            go_meet
            exact ⟨by rw [EC.out]; simp, rfl⟩
          · have e9 : (v.kd == 9) = false := by simp [h9]
            have ec : cn = cj := by rw [ECJ.out, if_neg h9]; rfl
            have EC : Hid _ := ec
            clear ec
            go_wp2_with fail
            go_meet
            exact ⟨by rw [EC.out], rfl⟩
        case rest =>
          obtain ⟨rfl, rfl⟩ := hcut
          have y2 : wc.cell? ⟨g6, 2, none⟩ = some (.int .i64 (i : Int)) := by rw [← HTT.out.1]; exact (cell_of GB.out 2).trans rfl
          have y4 : wc.cell? ⟨g6, 4, none⟩ = some (.int .i64 (k : Int)) := by rw [← HTT.out.2.1]; exact (cell_of GB.out 4).trans rfl
          have y10 : wc.cell? ⟨g6, 10, none⟩ = some (.int .i64 y.t.f3) := by rw [← HTT.out.2.2.2]; exact (cell_of GB.out 10).trans rfl
          have y11 : wc.cell? ⟨g6, 11, none⟩ = some (.int .i64 x.t.f2) := by rw [← HTT.out.2.2.1]; exact (cell_of GB.out 11).trans rfl
          have hg6 := lt_of_heap GB.out
          have KW : Hid (Kept w wc) := K5.out.trans' KB.out
          obtain ⟨b, off, ea, hbl, -⟩ := (HL.out.txs.on KW.out) i x HXI.out
          subst ea
          obtain ⟨x0, -, x2, -⟩ := (HL.out.txs.on KW.out).get HXI.out
          obtain ⟨z0, -, -, z3, -⟩ := (HL.out.txs.on KW.out).get HYK.out
          rw [HF0.out] at x0
          have i1 : decide ((i : Int) < 0) = false := decide_eq_false (by omega)
          have i2 : decide ((n : Int) ≤ (i : Int)) = false := decide_eq_false (by omega)
          have i3 : decide (n ≤ i) = false := decide_eq_false (by omega)
          have i4 : ¬ n ≤ i := by omega
          have i5 : (i : Int) < (n : Int) := by omega
          have k1 : decide ((k : Int) < 0) = false := decide_eq_false (by omega)
          have k2 : decide ((n : Int) ≤ (k : Int)) = false := decide_eq_false (by omega)
          have k3 : decide (n ≤ k) = false := decide_eq_false (by omega)
          have k4 : ¬ n ≤ k := by omega
          have k5 : (k : Int) < (n : Int) := by omega
          have nn1 : (y.t.f0 != y.t.f0) = false := by simp
          have nn2 : (x.t.f2 != x.t.f2) = false := by simp
          have nn3 : (y.t.f3 != y.t.f3) = false := by simp
          clear hwc
          go_wp2_with fail
          go_quiet (fail)
          go_wp2_with fail
          go_roundw
          case rel => exact ⟨j + 1, by simp, hlt, by rw [← show cn = _ from ECN.out], (by (repeat (first | exact KB.out | apply Same.drew | apply Same.drewN)); done)⟩
          case measure => simp only [intOf]; omega
      obtain rfl : m5 = j := by omega
      have d1 : decide ((m5 : Int) < (m5 : Int)) = false := decide_eq_false (by omega)
      have ecw : (L.take m5).countP k9 = wn := by rw [List.take_of_length_le (by rw [EM.out]; exact Nat.le_refl _), HWN.out]
      rw [ecw]
      have KF : Hid (Kept w WM) := K5.out.trans' KM.out
      have O9 : Hid (OwnL WL.heap.size WM (.slice a5 m5 c5) L) := row_kept O5.out KM.out (fun _ _ e => e)
      have be : ((wn : Int) == (wn : Int)) = true := by simp
      clear ecw
      go_wp2_with fail
      refine Calls.mono (WD.out _ KF.out) ?_
      rintro e W7 ⟨v7, rfl, o7, k7⟩
      obtain ⟨a7, m7, c7, ev, em⟩ : ∃ a m c, v7 = .slice a m c ∧ m = L.length := by
        obtain ⟨a, c, ev, -⟩ := row_shape o7
        exact ⟨_, _, _, ev, rfl⟩
      obtain rfl : m7 = m5 := em.trans EM.out.symm
      subst ev
      have O7 : Hid (OwnL WM.heap.size W7 (.slice a7 m7 c7) L) := o7
      have K7 : Hid (Kept w W7) := KF.out.trans' k7
      have O97 : Hid (OwnL WL.heap.size W7 (.slice a5 m7 c5) L) := row_kept O9.out k7 (fun _ _ e => e)
      clear o7 k7 em
      go_wp2_with fail
      refine Calls.mono (same16 W7 a5 a7 m7 c5 c7 L O97.out O7.out EM.out (by have := HM5.out; omega)) ?_
      rintro e W8 ⟨rfl, k8⟩
      have K8 : Hid (Kept w W8) := K7.out.trans' k8
      clear k8
      go_wp2_with fail
      go_ret
      exact ⟨rfl, K8.out⟩
end Go.Proofs.Ytbjmdpfoeeadeaa.Sw
