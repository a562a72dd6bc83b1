/- What is proved: the law ViolHead holds of every list and every two limits; the list lies in memory. -/
import Derived.Test.YticahglmlfflbaaVDuo
import Derived.Test.YticahglmlfflbaaVSame
import Derived.Test.YticahglmlfflbaaVRef
import Derived.Test.YticahglmlfflbaaVOpen
import Derived.Deep.DeepFit
namespace Go.Proofs.Yticahglmlfflbaa
open Go.RowKit

set_option maxRecDepth 100000 in
set_option maxHeartbeats 1600000 in
theorem head_out (small great : Int) (h : small < 0 ∨ great < small ∨ 10000 < great) (v : Value) (w : World) : Calls Try.prog 6 #[v, .int .i64 small, .int .i64 great] w fun e w' => e = .returned (.bool true) ∧ Kept w w' := by
  have HA : Hid _ := anchor18 w
  by_cases h1 : small < 0
  · have d1 : decide (small < 0) = true := decide_eq_true h1
    clear h
    go_enter Try.func6, Try.ntmps6
    go_wp2_with fail
    refine Calls.mono HA.out ?_
    rintro r w1 ⟨rfl, k1⟩
    have K1 : Hid (Kept w w1) := k1
    clear k1 HA
    go_wp2_with fail
    go_ret
    exact ⟨rfl, K1.out⟩
  · have d1 : decide (small < 0) = false := decide_eq_false h1
    by_cases h2 : great < small
    · have d2 : decide (small > great) = true := decide_eq_true h2
      clear h
      go_enter Try.func6, Try.ntmps6
      go_wp2_with fail
      refine Calls.mono HA.out ?_
      rintro r w1 ⟨rfl, k1⟩
      have K1 : Hid (Kept w w1) := k1
      clear k1 HA
      go_wp2_with fail
      go_ret
      exact ⟨rfl, K1.out⟩
    · have d2 : decide (small > great) = false := decide_eq_false h2
      have h3 : 10000 < great := by omega
      have d3 : decide (great > 10000) = true := decide_eq_true h3
      clear h
      go_enter Try.func6, Try.ntmps6
      go_wp2_with fail
      refine Calls.mono HA.out ?_
      rintro r w1 ⟨rfl, k1⟩
      have K1 : Hid (Kept w w1) := k1
      clear k1 HA
      go_wp2_with fail
      go_ret
      exact ⟨rfl, K1.out⟩
theorem At.vlg2 {w : World} {a : Option Addr} {l : List Vl} (h : At vl1 12 w a l) {j : Nat} {x : Vl} (hx : l[j]? = some x) : ∃ b o, a = some ⟨b, o, none⟩ ∧ b < w.heap.size ∧ ∀ c v, (vl1 x)[c]? = some v → ∀ n os, (Sort.grow (w.drewN n) os).cell? ⟨b, o + j * 12 + c, none⟩ = some v := by
  obtain ⟨b, o, e, hb, hc⟩ := h j x hx
  exact ⟨b, o, e, hb, fun c v hv n os => cell_grown (a := ⟨b, _, none⟩) hb (hc c v hv) n os⟩
theorem putC_eq (x : Vl) : putC x = if okV x then 0 else 181 := rfl
theorem heads {X : List Vl} {s g : Nat} (h : s ≤ g) : (X.take g).take (X.take s).length = X.take s := by
  rw [List.take_take, List.length_take]
  by_cases h1 : s ≤ X.length
  · rw [show min (min s X.length) g = s by omega]
  · rw [show min (min s X.length) g = X.length by omega, List.take_length, List.take_of_length_le (by omega)]
set_option maxRecDepth 100000 in
set_option maxHeartbeats 6400000 in
theorem head_law (sl gl : Nat) (hsg : sl ≤ gl) (hg : gl ≤ 10000) (w : World) (a : Option Addr) (cap : Nat) (l : List Vl) (h : ArgV w a cap l) : Calls Try.prog 6 #[.slice a l.length cap, .int .i64 (sl : Int), .int .i64 (gl : Int)] w fun e w' => e = .returned (.bool true) ∧ Kept w w' := by
  have mixed : Try.prog.follows .mixedOrders = true := by kernel_rfl
  have HA : Hid _ := anchor18 w
  have HN1 : Hid (∀ W, _) := fun W => new18_ok sl (by omega) W
  have HN2 : Hid (∀ W, _) := fun W => new18_ok gl hg W
  have HT0 : Hid (∀ W, Kept w W → D2 w ((W.alloc (tpO sl 0 (.slice none 0 0))).alloc (tpO gl 0 (.slice none 0 0))) W.heap.size (W.alloc (tpO sl 0 (.slice none 0 0))).heap.size sl gl [] []) := fun W k => D2.new k (by omega) hg
  have HL : Hid (At vl1 12 w a l) := h.at_
  have hn := h.len
  have d1 : decide ((sl : Int) < 0) = false := decide_eq_false (by omega)
  have d1' : ¬ (sl : Int) < 0 := by omega
  have d2 : decide ((sl : Int) > (gl : Int)) = false := decide_eq_false (by omega)
  have d2' : ¬ (gl : Int) < (sl : Int) := by omega
  have d3 : decide ((gl : Int) > 10000) = false := decide_eq_false (by omega)
  have d3' : ¬ (10000 : Int) < (gl : Int) := by omega
  obtain ⟨n, en⟩ : ∃ n, n = l.length := ⟨_, rfl⟩
  have EN : Hid (n = l.length) := en
  rw [← en] at hn ⊢
  clear h en
  go_enter Try.func6, Try.ntmps6
  go_wp2_with fail
  refine Calls.mono HA.out ?_
  rintro r w1 ⟨rfl, k1⟩
  have K1 : Hid (Kept w w1) := k1
  clear k1 HA
  go_wp2_with fail
  refine Calls.mono (HN1.out _) ?_
  rintro r w2 ⟨rfl, rfl⟩
  go_wp2_with fail
  refine Calls.mono (HN2.out _) ?_
  rintro r w2 ⟨rfl, rfl⟩
  have HT1 : Hid (D2 w ((w1.alloc (tpO sl 0 (.slice none 0 0))).alloc (tpO gl 0 (.slice none 0 0))) w1.heap.size (w1.alloc (tpO sl 0 (.slice none 0 0))).heap.size sl gl [] []) := HT0.out w1 K1.out
  generalize (w1.alloc (tpO sl 0 (.slice none 0 0))).alloc (tpO gl 0 (.slice none 0 0)) = W1 at HT1 ⊢
  generalize (w1.alloc (tpO sl 0 (.slice none 0 0))).heap.size = g at HT1 ⊢
  generalize w1.heap.size = s at HT1 ⊢
  clear HT0 HN1 HN2 K1
  go_wp2_with fail
  go_loopw [59] (fun i wr => ∃ j : Nat, i = .int .i64 (j : Int) ∧ j ≤ n ∧ NT l j ∧ Kept W1 wr) (fun i _ => n - (intOf i).toNat)
  case atStart => exact ⟨0, rfl, Nat.zero_le _, fun i k x y h1 => absurd h1 (Nat.not_lt_zero _), Same.refl _ _⟩
  case round =>
    obtain ⟨j, rfl, hj, hnt, hk⟩ := hrel
    rename World => WL
    have HNT : Hid (NT l j) := hnt
    have HK : Hid (Kept W1 WL) := hk
    by_cases hjn : j < n
    · have hm2 : (j : Int) < (n : Int) := by omega
      have hj3 : (j : Int) ≤ 1172812402961 := by omega
      obtain ⟨x, hx⟩ : ∃ x, l[j]? = some x := ⟨_, List.getElem?_eq_getElem (by rw [← show n = _ from EN.out]; exact hjn)⟩
      have HX : Hid (l[j]? = some x) := hx
      have KWL : Hid (Kept w WL) := HT1.out.kept.trans' hk
      obtain ⟨b, off, rfl, hb, c0, c1, c2, c3, c4, c5, c6, c7, c8, c9, c10, c11⟩ := At.vl (HL.out.on KWL.out) hx
      have HB0 : Hid ((WL.alloc (vlO x)).heap[WL.heap.size]? = some (vlO x)) := heap_new _ _
      have K2 : Hid (Kept WL (WL.alloc (vlO x))) := (Same.refl _ WL).alloc _
      clear hx hnt hk
      go_upto_region 13 with fail
      generalize WL.alloc (vlO x) = W2 at HB0 K2 ⊢
      generalize WL.heap.size = gx at HB0 ⊢
      have KW2 : Hid (Kept w W2) := KWL.out.trans' K2.out
      clear c0 c1 c2 c3 c4 c5 c6 c7 c8 c9 c10 c11 hb
      go_wp2_with fail
      go_loopw [14] (fun i wr => ∃ q : Nat, i = .int .i64 (q : Int) ∧ q ≤ j ∧ (∀ k' y, k' < q → l[k']? = some y → okV x = true → compV y x ≠ 0) ∧ Kept W2 wr) (fun i _ => j - (intOf i).toNat)
      case atStart => exact ⟨0, rfl, Nat.zero_le _, fun k' y h1 => absurd h1 (Nat.not_lt_zero _), Same.refl _ _⟩
      case round =>
        obtain ⟨q, rfl, hq, hall, hk2⟩ := hrel
        rename World => WR
        have HALL : Hid (∀ k' y, k' < q → l[k']? = some y → okV x = true → compV y x ≠ 0) := hall
        have HK2 : Hid (Kept W2 WR) := hk2
        by_cases hqj : q < j
        · have hm3 : (q : Int) < (j : Int) := by omega
          have hqn : (q : Int) < (n : Int) := by omega
          have hq3 : (q : Int) ≤ 1172812402961 := by omega
          obtain ⟨y, hy⟩ : ∃ y, l[q]? = some y := ⟨_, List.getElem?_eq_getElem (by rw [← show n = _ from EN.out]; omega)⟩
          obtain ⟨b2, off2, e2, hb2, hcy⟩ := At.vlg2 (HL.out.on (KW2.out.trans' hk2)) hy
          cases e2
          have hbx := (hk2.block gx (lt_of_heap HB0.out) (fun e => e)).trans HB0.out
          have hcx : ∀ c v, (vl1 x)[c]? = some v → ∀ n os, (Sort.grow (WR.drewN n) os).cell? ⟨gx, c, none⟩ = some v := fun c v hv n os => cell_grown (a := ⟨gx, c, none⟩) (lt_of_heap hbx) ((cell_of hbx c).trans (by simpa using hv)) n os
          have p0 := hcx 0 _ rfl
          have q0 := hcy 0 _ rfl
          have p1 := hcx 1 _ rfl
          have q1 := hcy 1 _ rfl
          have p2 := hcx 2 _ rfl
          have q2 := hcy 2 _ rfl
          have p3 := hcx 3 _ rfl
          have q3 := hcy 3 _ rfl
          have p4 := hcx 4 _ rfl
          have q4 := hcy 4 _ rfl
          have p5 := hcx 5 _ rfl
          have q5 := hcy 5 _ rfl
          have p6 := hcx 6 _ rfl
          have q6 := hcy 6 _ rfl
          have p7 := hcx 7 _ rfl
          have q7 := hcy 7 _ rfl
          have p8 := hcx 8 _ rfl
          have q8 := hcy 8 _ rfl
          have p9 := hcx 9 _ rfl
          have q9 := hcy 9 _ rfl
          have p10 := hcx 10 _ rfl
          have q10 := hcy 10 _ rfl
          have p11 := hcx 11 _ rfl
          have q11 := hcy 11 _ rfl
          simp only [Nat.add_zero] at q0
          have HC : Hid (∀ W, _) := fun W => compare18 y x W
          have HRV : Hid (∀ W, Calls Try.prog 12 #[vlV x] W fun e w' => e = .returned (.bool (okV x)) ∧ Grw W w') := fun W => (rvalid18 x W).mono fun e w' h => ⟨h.1, by rw [h.2]; exact (Grw.refl W).alloc _⟩
          have HNX : Hid ((okV x = true → compV y x ≠ 0) → ∀ k' z, k' < q + 1 → l[k']? = some z → okV x = true → compV z x ≠ 0) := fun hc k' z h1 h2 h3 => by
            by_cases hkq : k' = q
            · subst hkq
              rw [hy] at h2
              cases h2
              exact hc h3
            · exact hall k' z (by omega) h2 h3
          clear hcx hcy hbx hall hk2 hy
          generalize compV y x = cv at HC HNX
          generalize okV x = bx at HRV HNX
          obtain ⟨xkd, xtm, xtx, xop, xwit, xkey, xwa, xex, xgg, xob, xfr, xtt⟩ := x
          obtain ⟨ykd, ytm, ytx, yop, ywit, ykey, ywa, yex, ygg, yob, yfr, ytt⟩ := y
          unfold vlV at HC HRV
          simp only at p0 p1 p2 p3 p4 p5 p6 p7 p8 p9 p10 p11 q0 q1 q2 q3 q4 q5 q6 q7 q8 q9 q10 q11 HC HRV
          by_cases hcv : cv = 0
          · subst hcv
            cases bx with
            | true =>
              clear HNX
              go_wp2_with fail
              go_quiet_grown (first | (go_at_call 17; refine Calls.grown_of (HC.out _)) | (go_at_call 12; refine Calls.grown_of (HRV.out _)))
              clear p0 p1 p2 p3 p4 p5 p6 p7 p8 p9 p10 p11 q0 q1 q2 q3 q4 q5 q6 q7 q8 q9 q10 q11
              have G : Hid (Kept WR (Sort.grow (WR.drewN nq) osq)) := Grw.kept ⟨nq, osq, rfl⟩
              generalize Sort.grow (WR.drewN nq) osq = WQ at G ⊢
              go_wp2_with fail
              go_ret
              exact ⟨rfl, (KW2.out.trans' HK2.out).trans' G.out⟩
            | false =>
              have HNX2 : Hid _ := HNX.out (fun e => by cases e)
              clear HNX
              go_wp2_with fail
              go_quiet_grown (first | (go_at_call 17; refine Calls.grown_of (HC.out _)) | (go_at_call 12; refine Calls.grown_of (HRV.out _)))
              clear p0 p1 p2 p3 p4 p5 p6 p7 p8 p9 p10 p11 q0 q1 q2 q3 q4 q5 q6 q7 q8 q9 q10 q11
              have G : Hid (Kept WR (Sort.grow (WR.drewN nq) osq)) := Grw.kept ⟨nq, osq, rfl⟩
              generalize Sort.grow (WR.drewN nq) osq = WQ at G ⊢
              go_wp2_with fail
              go_roundw
              case rel => exact ⟨q + 1, by simp, hqj, HNX2.out, HK2.out.trans' G.out⟩
              case measure => simp only [intOf]; omega
          · have hcb : (cv == 0) = false := by simp [hcv]
            have HNX2 : Hid _ := HNX.out (fun _ => hcv)
            clear HNX
            go_wp2_with fail
            go_quiet_grown (first | (go_at_call 17; refine Calls.grown_of (HC.out _)) | (go_at_call 12; refine Calls.grown_of (HRV.out _)))
            clear p0 p1 p2 p3 p4 p5 p6 p7 p8 p9 p10 p11 q0 q1 q2 q3 q4 q5 q6 q7 q8 q9 q10 q11
            have G : Hid (Kept WR (Sort.grow (WR.drewN nq) osq)) := Grw.kept ⟨nq, osq, rfl⟩
            generalize Sort.grow (WR.drewN nq) osq = WQ at G ⊢
            go_wp2_with fail
            go_roundw
            case rel => exact ⟨q + 1, by simp, hqj, HNX2.out, HK2.out.trans' G.out⟩
            case measure => simp only [intOf]; omega
        · obtain rfl : j = q := by omega
          have hm3 : ¬ (j : Int) < (j : Int) := by omega
          have HNT2 : Hid (NT l (j + 1)) := fun i k x' y' h1 h2 h3 h4 h5 => by
            by_cases hij : i = j
            · subst hij
              rw [HX.out] at h3
              cases h3
              exact hall k y' h2 h4 h5
            · exact HNT.out i k x' y' (by omega) h2 h3 h4 h5
          clear hall hk2
          go_wp2_with fail
          go_roundw
          case rel => exact ⟨j + 1, by simp, hjn, HNT2.out, (HK.out.trans' K2.out).trans' HK2.out⟩
          case measure => simp only [intOf]; omega
    · obtain rfl : n = j := by omega
      have hm2 : ¬ (n : Int) < (n : Int) := by omega
      have HT2 : Hid (D2 w WL s g sl gl [] []) := HT1.out.on hk
      clear hk hnt HT1 HK
      go_wp2_with fail
      go_loopw [83, 11] (fun i c wr => ∃ j : Nat, i = .int .i64 (j : Int) ∧ j ≤ n ∧ c = .int .i64 (((l.take j).filter okV).length : Int) ∧ D2 w wr s g sl gl ((l.take j).filter okV) ((l.reverse.take j).filter okV)) (fun i _ _ => n - (intOf i).toNat)
      case atStart => exact ⟨0, rfl, Nat.zero_le _, rfl, HT2.out⟩
      case round =>
        obtain ⟨j, rfl, hj, rfl, hd⟩ := hrel
        clear HT2
        rename World => WR
        by_cases hjn : j < n
        · have hm2 : (j : Int) < (n : Int) := by omega
          have hj3 : (j : Int) ≤ 1172812402961 := by omega
          obtain ⟨q, eq⟩ : ∃ q, q = n - 1 - j := ⟨_, rfl⟩
          have hqn : q < n := by omega
          have hq2 : (q : Int) < (n : Int) := by omega
          have HQ3 : Hid ((n : Int) - 1 - (j : Int) = (q : Int)) := by show _ = _; omega
          have hnI : (n : Int) ≤ 1172812402961 := by omega
          have hnI1 : (1 : Int) ≤ (n : Int) := by omega
          have hw1 : IntKind.i64.wrap ((n : Int) - 1) = (n : Int) - 1 := by rw [IntKind.wrap_i64] <;> omega
          have hw2 : IntKind.i64.wrap ((n : Int) - 1 - (j : Int)) = (q : Int) := by rw [IntKind.wrap_i64] <;> omega
          have hq0 : (0 : Int) ≤ (q : Int) := by omega
          obtain ⟨x, hx⟩ : ∃ x, l[j]? = some x := ⟨_, List.getElem?_eq_getElem (by rw [← show n = _ from EN.out]; exact hjn)⟩
          obtain ⟨y, hy⟩ : ∃ y, l[q]? = some y := ⟨_, List.getElem?_eq_getElem (by rw [← show n = _ from EN.out]; exact hqn)⟩
          have hry : l.reverse[j]? = some y := by rw [List.getElem?_reverse (by rw [← show n = _ from EN.out]; exact hjn), ← show n = _ from EN.out, ← eq]; exact hy
          have KW : Kept w WR := hd.kept
          obtain ⟨b, o, ea, hb, hcx⟩ := (HL.out.on KW) j x hx
          subst ea
          obtain ⟨b', o', eb, -, hcy⟩ := (HL.out.on KW) q y hy
          cases eb
          have hbw : b < w.heap.size := by
            obtain ⟨b2, o2, e2, hb2, -⟩ := HL.out j x hx
            cases e2
            exact hb2
          have HT : Hid (∀ W', Kept w W' → Kept w W' ∧ W'.cell? ⟨b, o + j * 12, none⟩ = some (.int .i64 x.kd) ∧ W'.cell? ⟨b, o + j * 12 + 1, none⟩ = some (.int .i64 x.tm) ∧ W'.cell? ⟨b, o + j * 12 + 2, none⟩ = some (.int .i64 x.tx) ∧ W'.cell? ⟨b, o + j * 12 + 3, none⟩ = some (.int .i64 x.op) ∧ W'.cell? ⟨b, o + j * 12 + 4, none⟩ = some (.int .i64 x.wi) ∧ W'.cell? ⟨b, o + j * 12 + 5, none⟩ = some (.string x.key) ∧ W'.cell? ⟨b, o + j * 12 + 6, none⟩ = some (.bool x.wa) ∧ W'.cell? ⟨b, o + j * 12 + 7, none⟩ = some (.string x.ex) ∧ W'.cell? ⟨b, o + j * 12 + 8, none⟩ = some (.bool x.go) ∧ W'.cell? ⟨b, o + j * 12 + 9, none⟩ = some (.string x.ob) ∧ W'.cell? ⟨b, o + j * 12 + 10, none⟩ = some (.int .i64 x.fr) ∧ W'.cell? ⟨b, o + j * 12 + 11, none⟩ = some (.int .i64 x.tt) ∧ W'.cell? ⟨b, o + q * 12, none⟩ = some (.int .i64 y.kd) ∧ W'.cell? ⟨b, o + q * 12 + 1, none⟩ = some (.int .i64 y.tm) ∧ W'.cell? ⟨b, o + q * 12 + 2, none⟩ = some (.int .i64 y.tx) ∧ W'.cell? ⟨b, o + q * 12 + 3, none⟩ = some (.int .i64 y.op) ∧ W'.cell? ⟨b, o + q * 12 + 4, none⟩ = some (.int .i64 y.wi) ∧ W'.cell? ⟨b, o + q * 12 + 5, none⟩ = some (.string y.key) ∧ W'.cell? ⟨b, o + q * 12 + 6, none⟩ = some (.bool y.wa) ∧ W'.cell? ⟨b, o + q * 12 + 7, none⟩ = some (.string y.ex) ∧ W'.cell? ⟨b, o + q * 12 + 8, none⟩ = some (.bool y.go) ∧ W'.cell? ⟨b, o + q * 12 + 9, none⟩ = some (.string y.ob) ∧ W'.cell? ⟨b, o + q * 12 + 10, none⟩ = some (.int .i64 y.fr) ∧ W'.cell? ⟨b, o + q * 12 + 11, none⟩ = some (.int .i64 y.tt)) := fun W' k' => by
            have hcx := (HL.out.on k') j x hx
            obtain ⟨b3, o3, e3, -, hc3⟩ := hcx
            cases e3
            obtain ⟨b4, o4, e4, -, hc4⟩ := (HL.out.on k') q y hy
            cases e4
            exact ⟨k', hc3 0 _ rfl, hc3 1 _ rfl, hc3 2 _ rfl, hc3 3 _ rfl, hc3 4 _ rfl, hc3 5 _ rfl, hc3 6 _ rfl, hc3 7 _ rfl, hc3 8 _ rfl, hc3 9 _ rfl, hc3 10 _ rfl, hc3 11 _ rfl, hc4 0 _ rfl, hc4 1 _ rfl, hc4 2 _ rfl, hc4 3 _ rfl, hc4 4 _ rfl, hc4 5 _ rfl, hc4 6 _ rfl, hc4 7 _ rfl, hc4 8 _ rfl, hc4 9 _ rfl, hc4 10 _ rfl, hc4 11 _ rfl⟩
          have HNV : Hid ((l.take (j + 1)).filter okV = (l.take j).filter okV ++ [x].filter okV) := by show _ = _; rw [List.take_add_one, hx]; simp
          have HNU : Hid ((l.reverse.take (j + 1)).filter okV = (l.reverse.take j).filter okV ++ [y].filter okV) := by show _ = _; rw [List.take_add_one, hry]; simp
          have hvl : ((l.take j).filter okV).length ≤ 1172812402961 := Nat.le_trans (List.length_filter_le _ _) (by rw [List.length_take]; omega)
          have hul : ((l.reverse.take j).filter okV).length ≤ 1172812402961 := Nat.le_trans (List.length_filter_le _ _) (by rw [List.length_take]; omega)
          generalize (l.take j).filter okV = V at *
          generalize (l.reverse.take j).filter okV = U at *
          obtain ⟨Q, eQ⟩ : ∃ Q : Bool → Bool → World → Prop, Q = fun cs cg W' => D2 w W' s g sl gl (if cs then V ++ [x].filter okV else V) (if cg then U ++ [y].filter okV else U) := ⟨_, rfl⟩
          have HQ0 : Hid (∀ W', Kept WR W' → Q false false W') := fun W' k' => by rw [eQ]; exact hd.on k'
          have HQE : Hid (∀ W', Q true true W' → D2 w W' s g sl gl (V ++ [x].filter okV) (U ++ [y].filter okV)) := fun W' q' => by rw [eQ] at q'; exact q'
          have HS : Hid (∀ cg W', Q false cg W' → Calls Try.prog 11 #[.pointer (some ⟨s, 0, none⟩), vlV x] W' fun e w' => e = .returned (.int .i64 (putC x)) ∧ Q true cg w' ∧ Kept w w') := fun cg W' q' => by
            rw [eQ] at q' ⊢
            exact (D2.any q' x (by simp only [Bool.false_eq_true, if_false]; omega)).mono fun e w' h => ⟨h.1, h.2, h.2.kept⟩
          have HG : Hid (∀ cs W', Q cs false W' → Calls Try.prog 11 #[.pointer (some ⟨g, 0, none⟩), vlV y] W' fun e w' => e = .returned (.int .i64 (putC y)) ∧ Q cs true w' ∧ Kept w w') := fun cs W' q' => by
            rw [eQ] at q' ⊢
            exact (D2.snd q' y (by simp only [Bool.false_eq_true, if_false]; omega)).mono fun e w' h => ⟨h.1, h.2, h.2.kept⟩
          have HVX : Hid (∀ W, Calls Try.prog 12 #[vlV x] W fun e w' => e = .returned (.bool (okV x)) ∧ Kept W w') := fun W => (rvalid18 x W).mono fun e w' h => ⟨h.1, by rw [h.2]; exact (Same.refl _ W).alloc _⟩
          have HVY : Hid (∀ W, Calls Try.prog 12 #[vlV y] W fun e w' => e = .returned (.bool (okV y)) ∧ Kept W w') := fun W => (rvalid18 y W).mono fun e w' h => ⟨h.1, by rw [h.2]; exact (Same.refl _ W).alloc _⟩
          have HLX : Hid ((V ++ [x].filter okV).length = V.length + if okV x then 1 else 0) := by
            show _ = _
            rw [List.length_append]
            cases h9 : okV x <;> simp [h9]
          have hc1 : putC x = if okV x then 0 else 181 := rfl
          have hc2 : putC y = if okV y then 0 else 181 := rfl
          generalize putC x = c1 at HS hc1
          generalize putC y = c2 at HG hc2
          generalize V ++ [x].filter okV = V' at HNV HQE HLX
          generalize U ++ [y].filter okV = U' at HNU HQE
          generalize okV x = bx at HVX hc1 HLX
          generalize okV y = bY at HVY hc2
          have hvi : (V.length : Int) ≤ 1172812402961 := by omega
          generalize V.length = nv at *
          clear hd eQ hx hy hry hcx hcy eq hvl hul
          obtain ⟨xkd, xtm, xtx, xop, xwit, xkey, xwa, xex, xgg, xob, xfr, xtt⟩ := x
          obtain ⟨ykd, ytm, ytx, yop, ywit, ykey, ywa, yex, ygg, yob, yfr, ytt⟩ := y
          unfold vlV at HS HG HVX HVY
          simp only at HT HS HG HVX HVY
          go_wp2_with fail
          go_cut [16, 17] (fun a16 a17 wx => a16 = .int .i64 c1 ∧ a17 = .int .i64 c2 ∧ Q true true wx)
          case first =>
            clear HVX HVY HNV HNU HLX hc1 hc2 HQE
            obtain ⟨-, p0, p1, p2, p3, p4, p5, p6, p7, p8, p9, p10, p11, q0, q1, q2, q3, q4, q5, q6, q7, q8, q9, q10, q11⟩ := HT.out WR KW
            go_region_held3 (fun W' => Kept w W' ∧ W'.cell? ⟨b, o + j * 12, none⟩ = some (.int .i64 xkd) ∧ W'.cell? ⟨b, o + j * 12 + 1, none⟩ = some (.int .i64 xtm) ∧ W'.cell? ⟨b, o + j * 12 + 2, none⟩ = some (.int .i64 xtx) ∧ W'.cell? ⟨b, o + j * 12 + 3, none⟩ = some (.int .i64 xop) ∧ W'.cell? ⟨b, o + j * 12 + 4, none⟩ = some (.int .i64 xwit) ∧ W'.cell? ⟨b, o + j * 12 + 5, none⟩ = some (.string xkey) ∧ W'.cell? ⟨b, o + j * 12 + 6, none⟩ = some (.bool xwa) ∧ W'.cell? ⟨b, o + j * 12 + 7, none⟩ = some (.string xex) ∧ W'.cell? ⟨b, o + j * 12 + 8, none⟩ = some (.bool xgg) ∧ W'.cell? ⟨b, o + j * 12 + 9, none⟩ = some (.string xob) ∧ W'.cell? ⟨b, o + j * 12 + 10, none⟩ = some (.int .i64 xfr) ∧ W'.cell? ⟨b, o + j * 12 + 11, none⟩ = some (.int .i64 xtt) ∧ W'.cell? ⟨b, o + q * 12, none⟩ = some (.int .i64 ykd) ∧ W'.cell? ⟨b, o + q * 12 + 1, none⟩ = some (.int .i64 ytm) ∧ W'.cell? ⟨b, o + q * 12 + 2, none⟩ = some (.int .i64 ytx) ∧ W'.cell? ⟨b, o + q * 12 + 3, none⟩ = some (.int .i64 yop) ∧ W'.cell? ⟨b, o + q * 12 + 4, none⟩ = some (.int .i64 ywit) ∧ W'.cell? ⟨b, o + q * 12 + 5, none⟩ = some (.string ykey) ∧ W'.cell? ⟨b, o + q * 12 + 6, none⟩ = some (.bool ywa) ∧ W'.cell? ⟨b, o + q * 12 + 7, none⟩ = some (.string yex) ∧ W'.cell? ⟨b, o + q * 12 + 8, none⟩ = some (.bool ygg) ∧ W'.cell? ⟨b, o + q * 12 + 9, none⟩ = some (.string yob) ∧ W'.cell? ⟨b, o + q * 12 + 10, none⟩ = some (.int .i64 yfr) ∧ W'.cell? ⟨b, o + q * 12 + 11, none⟩ = some (.int .i64 ytt))
              (exact HT.out _ (by (repeat (first | assumption | apply Same.alloc | apply Same.drew | apply Same.drewN)); done))
              ((first
              | (go_at_call 11; go_fit (HS.out _ _ (by first | assumption | exact HQ0.out _ (by (repeat (first | exact Same.refl _ _ | apply Same.alloc | apply Same.drew | apply Same.drewN)); done))); rintro r w5 ⟨rfl, q5, k5⟩)
              | (go_at_call 11; go_fit (HG.out _ _ (by first | assumption | exact HQ0.out _ (by (repeat (first | exact Same.refl _ _ | apply Same.alloc | apply Same.drew | apply Same.drewN)); done))); rintro r w5 ⟨rfl, q5, k5⟩)))
            all_goals (go_wp2_with fail)
            all_goals go_meet
            all_goals exact ⟨rfl, rfl, by assumption⟩
          case rest =>
            obtain ⟨rfl, rfl, hq⟩ := hcut
            rename World => WC
            have HD : Hid (D2 w WC s g sl gl V' U') := HQE.out WC hq
            have KC : Kept w WC := HD.out.kept
            obtain ⟨-, p0, p1, p2, p3, p4, p5, p6, p7, p8, p9, p10, p11, q0, q1, q2, q3, q4, q5, q6, q7, q8, q9, q10, q11⟩ := HT.out WC KC
            have hbc : b < WC.heap.size := Nat.lt_of_lt_of_le hbw KC.size
            have hq3 : (n : Int) - 1 - (j : Int) = (q : Int) := HQ3.out
            have HRL : Hid (∀ W5, Kept WC W5 → D2 w W5 s g sl gl ((l.take (j + 1)).filter okV) ((l.reverse.take (j + 1)).filter okV)) := fun W5 k5 => by rw [HNV.out, HNU.out]; exact HD.out.on k5
            have HCT : Hid (((l.take (j + 1)).filter okV).length = nv + if bx then 1 else 0) := by show _ = _; rw [HNV.out]; exact HLX.out
            clear hq HS HG HQ0 HQE hw1 hw2 HNV HNU HLX
            cases bx <;> cases bY
            all_goals
              simp only [if_true, if_false, Bool.false_eq_true] at hc1 hc2
              subst hc1 hc2
              go_wp2_with fail
              refine Calls.mono (HVX.out _) ?_
              rintro r W4 ⟨rfl, k4⟩
              have K4 : Hid (Kept WC W4) := k4
              clear p0 p1 p2 p3 p4 p5 p6 p7 p8 p9 p10 p11 q0 q1 q2 q3 q4 q5 q6 q7 q8 q9 q10 q11
              obtain ⟨-, p0, p1, p2, p3, p4, p5, p6, p7, p8, p9, p10, p11, q0, q1, q2, q3, q4, q5, q6, q7, q8, q9, q10, q11⟩ := HT.out W4 (KC.trans' k4)
              have hb4 : b < W4.heap.size := Nat.lt_of_lt_of_le hbc k4.size
              clear k4
              go_wp2_with fail
              refine Calls.mono (HVY.out _) ?_
              rintro r W5 ⟨rfl, k5⟩
              have K5 : Hid (Kept WC W5) := K4.out.trans' k5
              clear p0 p1 p2 p3 p4 p5 p6 p7 p8 p9 p10 p11 q0 q1 q2 q3 q4 q5 q6 q7 q8 q9 q10 q11 k5
              go_wp2_with fail
              go_roundw
              case rel => exact ⟨j + 1, by simp, hjn, by rw [HCT.out]; simp, HRL.out _ K5.out⟩
              case measure => simp only [intOf]; omega
        · obtain rfl : n = j := by omega
          have hm2 : ¬ (n : Int) < (n : Int) := by omega
          have e1 : l.take n = l := List.take_of_length_le (by rw [← show n = _ from EN.out]; exact Nat.le_refl _)
          have e2 : l.reverse.take n = l.reverse := List.take_of_length_le (by rw [List.length_reverse, ← show n = _ from EN.out]; exact Nat.le_refl _)
          rw [e1, e2, filter_rev] at hd
          rw [e1]
          have hne : NT l l.length := by rw [← show n = _ from EN.out]; exact HNT.out
          have hsr := srt_rev hne.filter
          have hfl : (l.filter okV).length ≤ 1172812402961 := Nat.le_trans (List.length_filter_le _ _) (by rw [← show n = _ from EN.out]; exact hn)
          generalize l.filter okV = F at hd hsr hfl ⊢
          have HL1 : Hid _ := hd.fst.list
          have HL2 : Hid (∀ W, Kept WR W → _) := fun W (k : Kept WR W) => (hd.on k).swap.fst.list
          have HC1 : Hid (∀ W, Kept WR W → _) := fun W (k : Kept WR W) => (hd.on k).fst.total
          have HC2 : Hid (∀ W, Kept WR W → _) := fun W (k : Kept WR W) => (hd.on k).swap.fst.total
          rw [hsr] at HL2
          rw [List.length_reverse] at HC2
          obtain ⟨T1, eT1⟩ : ∃ T, T = (srt ltV F).take sl := ⟨_, rfl⟩
          obtain ⟨T2, eT2⟩ : ∃ T, T = (srt ltV F).take gl := ⟨_, rfl⟩
          have ht12 : T2.take T1.length = T1 := by rw [eT1, eT2]; exact heads hsg
          have hl1 : T1.length = min sl F.length := by rw [eT1, List.length_take, srt_len]
          have hl2 : T2.length = min gl F.length := by rw [eT2, List.length_take, srt_len]
          rw [← eT1] at HL1
          rw [← eT2] at HL2
          have HT12 : Hid (T2.take T1.length = T1) := ht12
          have HKW : Hid (Kept w WR) := hd.kept
          obtain ⟨N, eN⟩ : ∃ N, N = F.length := ⟨_, rfl⟩
          rw [← eN] at HC1 HC2 hl1 hl2 hfl ⊢
          obtain ⟨m1, em1⟩ : ∃ m, m = T1.length := ⟨_, rfl⟩
          obtain ⟨m2, em2⟩ : ∃ m, m = T2.length := ⟨_, rfl⟩
          rw [← em1] at hl1
          rw [← em2] at hl2
          have hmi1 : min (sl : Int) (N : Int) = (m1 : Int) := by omega
          have hmi2 : min (gl : Int) (N : Int) = (m2 : Int) := by omega
          have hm12 : m1 ≤ m2 := by omega
          have hm12' : (m1 : Int) ≤ (m2 : Int) := by omega
          have hm1b : m1 ≤ 4398046511104 := by omega
          have EM1 : Hid (m1 = T1.length) := em1
          have EM2 : Hid (m2 = T2.length) := em2
          clear hd hsr hne e1 e2 eT1 eT2 ht12 hl1 hl2 eN em1 em2
          go_wp2_with fail
          refine Calls.mono HL1.out ?_
          rintro r W4 ⟨u4, rfl, o4, -, k4⟩
          have K4 : Hid (Kept WR W4) := k4
          obtain ⟨a4, p4, e4, -, -, -⟩ := o4.shape
          subst e4
          have HA4 : Hid (At vl1 12 W4 a4 T1) := o4.at ekV
          rw [← show m1 = _ from EM1.out]
          clear o4 k4 HL1
          go_wp2_with fail
          refine Calls.mono (HL2.out _ K4.out) ?_
          rintro r W5 ⟨u5, rfl, o5, -, k5⟩
          have K5 : Hid (Kept WR W5) := K4.out.trans' k5
          obtain ⟨a5, p5, e5, hp5, -, -⟩ := o5.shape
          subst e5
          have HA5 : Hid (At vl1 12 W5 a5 T2) := o5.at ekV
          have HA45 : Hid (At vl1 12 W5 a4 T1) := HA4.out.on k5
          rw [← show m2 = _ from EM2.out] at hp5 ⊢
          have hp5' : (m1 : Int) ≤ (p5 : Int) := by omega
          clear o5 k5 HL2 HA4
          go_wp2_with fail
          refine Calls.mono (HC1.out _ K5.out) ?_
          rintro r W6 ⟨rfl, h6⟩
          subst W6
          go_wp2_with fail
          refine Calls.mono (HC2.out _ K5.out) ?_
          rintro r W6 ⟨rfl, h6⟩
          subst W6
          have HSM : Hid _ := same18 W5 a4 a5 m1 p4 p5 T1 HA45.out (by have h9 := HA5.out.take T1.length; rw [HT12.out] at h9; exact h9) EM1.out hm1b
          go_wp2_with fail
          refine Calls.mono HSM.out ?_
          rintro r W7 ⟨rfl, k7⟩
          have K7 : Hid (Kept WR W7) := K5.out.trans' k7
          clear k7 HSM
          go_wp2_with fail
          go_ret
          exact ⟨rfl, HKW.out.trans' K7.out⟩
end Go.Proofs.Yticahglmlfflbaa
