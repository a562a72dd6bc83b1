/- What is proved: symMerge of the library's stable sort lays one violation into a sorted part; in any program with this text, the row lies in memory. -/
import Derived.Test.YtnfkjblhnpnaeaaVSy
import Derived.Test.YtnfkjblhnpnaeaaVSw
import Derived.Lib.BitFns
namespace Go.Proofs.Ytnfkjblhnpnaeaa
open Go.RowKit

abbrev cmpF : Value := .func (.func 17) #[] #[]
theorem mono_fore {x : Nb} {R : List Nb} (hR : StS R) (hn : ∀ y ∈ R, x.n < y.n) {i j : Nat} {y z : Nb} (hy : R[i]? = some y) (hz : R[j]? = some z) (hij : i ≤ j) (h : ltV z.v x.v = true) : ltV y.v x.v = true := by
  rw [← ltN_back (hn z (List.mem_of_getElem? hz))] at h
  rw [← ltN_back (hn y (List.mem_of_getElem? hy))]
  exact lt_chain (hR.at hy hz hij) h (.inl rfl)
theorem mono_back {y : Nb} {L : List Nb} (hL : StS L) (hn : ∀ x ∈ L, x.n < y.n) {i j : Nat} {x z : Nb} (hx : L[i]? = some x) (hz : L[j]? = some z) (hij : i ≤ j) (h : ltV y.v x.v = true) : ltV y.v z.v = true := by
  rw [← ltN_back (hn x (List.mem_of_getElem? hx))] at h
  rw [← ltN_back (hn z (List.mem_of_getElem? hz))]
  exact lt_chain (.inl rfl) h (hL.at hx hz hij)
theorem get_mid {A B C : List Nb} {i : Nat} (h : i < B.length) : (A ++ B ++ C)[A.length + i]? = B[i]? := by
  rw [List.append_assoc, List.getElem?_append_right (by omega), Nat.add_sub_cancel_left, List.getElem?_append_left h]
/-- One moves on by one place. -/
theorem shift_up {A R C : List Nb} {x y : Nb} {t : Nat} (hy : R[t]? = some y) : ((A ++ (R.take t ++ [x] ++ R.drop t) ++ C).set (A.length + t) y).set (A.length + t + 1) x = A ++ (R.take (t + 1) ++ [x] ++ R.drop (t + 1)) ++ C := by
  have ht := (List.getElem?_eq_some_iff.1 hy).1
  have e1 : (R.take t).length = t := by rw [List.length_take]; omega
  have hd : R.drop t = y :: R.drop (t + 1) := by
    obtain ⟨h1, rfl⟩ := List.getElem?_eq_some_iff.1 hy
    exact List.drop_eq_getElem_cons h1
  have e2 : A ++ (R.take t ++ [x] ++ R.drop t) ++ C = (A ++ R.take t) ++ (x :: y :: (R.drop (t + 1) ++ C)) := by rw [hd]; simp
  have e3 : (A ++ R.take t).length = A.length + t := by rw [List.length_append, e1]
  have s1 := set_append_at (A ++ R.take t) (x :: y :: (R.drop (t + 1) ++ C)) 0 y
  have s2 := set_append_at (A ++ R.take t) (y :: y :: (R.drop (t + 1) ++ C)) 1 x
  rw [e3, List.set_cons_zero] at s1
  simp only [Nat.add_zero] at s1
  rw [e3, List.set_cons_succ, List.set_cons_zero] at s2
  rw [e2, s1, s2, List.take_add_one, hy]
  simp
theorem get_up {A R C : List Nb} {x y : Nb} {t : Nat} (hy : R[t]? = some y) : (A ++ (R.take t ++ [x] ++ R.drop t) ++ C)[A.length + t]? = some x ∧ (A ++ (R.take t ++ [x] ++ R.drop t) ++ C)[A.length + t + 1]? = some y := by
  have ht := (List.getElem?_eq_some_iff.1 hy).1
  have e1 : (R.take t).length = t := by rw [List.length_take]; omega
  have hd : R.drop t = y :: R.drop (t + 1) := by
    obtain ⟨h1, rfl⟩ := List.getElem?_eq_some_iff.1 hy
    exact List.drop_eq_getElem_cons h1
  have e2 : A ++ (R.take t ++ [x] ++ R.drop t) ++ C = (A ++ R.take t) ++ (x :: y :: (R.drop (t + 1) ++ C)) := by rw [hd]; simp
  have e3 : (A ++ R.take t).length = A.length + t := by rw [List.length_append, e1]
  rw [e2]
  constructor
  · rw [List.getElem?_append_right (by omega), e3, Nat.sub_self]; rfl
  · rw [List.getElem?_append_right (by omega), e3, show A.length + t + 1 - (A.length + t) = 1 by omega]; rfl
set_option maxRecDepth 100000 in
set_option maxHeartbeats 3200000 in
theorem sym1 {P : Program} {k : Nat} {enc : Vl → List Value} (AS : As P k enc) {base : Nat} {w : World} {g N cap : Nat} {A R C : List Nb} {x : Nb} (h : Own (en enc) k 30 base w (.slice (some ⟨g, 0, none⟩) N cap) (A ++ [x] ++ R ++ C)) (hN : N ≤ 1172812402961) (hR : StS R) (hn : ∀ y ∈ R, x.n < y.n) (hr0 : 0 < R.length) :
    Calls P 46 #[.slice (some ⟨g, 0, none⟩) N cap, .int .i64 (A.length : Int), .int .i64 ((A.length + 1 : Nat) : Int), .int .i64 ((A.length + 1 + R.length : Nat) : Int), cmpF] w fun e w' => e = .returned (.tuple #[]) ∧ Own (en enc) k 30 base w' (.slice (some ⟨g, 0, none⟩) N cap) (A ++ srt ltN ([x] ++ R) ++ C) ∧ Same (fun b => b = g) w w' := by
  obtain ⟨mixed, E, fW, fR, fM, fT, eW, eR, eM, eI, eC, cmp, t0, t3, t4, t28, t77, a0, a3, a4, a28, a30, z0, z3, z4, z28, z30⟩ := AS
  have u28 := run_underlying t28
  have u77 := run_underlying (t77.trans Try.underlying77)
  have t77' := t77.trans Try.underlying77
  have EE : Hid (Ek (en enc) k) := ek_en E
  have HC : Hid (∀ a b W, _) := cmp
  have hNl : N = (A ++ [x] ++ R ++ C).length := h.lt.2
  simp only [List.length_append, List.length_cons, List.length_nil] at hNl
  obtain ⟨a, ea⟩ : ∃ a, a = A.length := ⟨_, rfl⟩
  obtain ⟨m, em⟩ : ∃ m, m = A.length + 1 := ⟨_, rfl⟩
  obtain ⟨b, eb⟩ : ∃ b, b = A.length + 1 + R.length := ⟨_, rfl⟩
  rw [← eb, ← em, ← ea]
  have hbN : b ≤ N := by omega
  have hma : (m : Int) - (a : Int) = 1 := by omega
  have hbN2 : (b : Int) ≤ 1172812402961 := by omega
  have haN : (a : Int) < (N : Int) := by omega
  have EA : Hid (a = A.length ∧ m = A.length + 1 ∧ b = A.length + 1 + R.length) := ⟨ea, em, eb⟩
  have HO : Hid (Own (en enc) k 30 base w (.slice (some ⟨g, 0, none⟩) N cap) (A ++ [x] ++ R ++ C)) := h
  have HR : Hid (StS R) := hR
  have HNN : Hid (∀ y ∈ R, x.n < y.n) := hn
  have hgx : (A ++ [x] ++ R ++ C)[a]? = some x := by rw [List.append_assoc, List.append_assoc, List.getElem?_append_right (by omega), ea, Nat.sub_self]; rfl
  have HGX : Hid ((A ++ [x] ++ R ++ C)[a]? = some x) := hgx
  have HGY : Hid (∀ q y, m ≤ q → R[q - m]? = some y → (A ++ [x] ++ R ++ C)[q]? = some y) := fun q y h1 h2 => by
    have h3 := (List.getElem?_eq_some_iff.1 h2).1
    rw [List.append_assoc, List.getElem?_append_right (by simp; omega), List.getElem?_append_left (by simp; omega)]
    rw [← h2]
    congr 1
    simp
    omega
  clear cmp fW fR fT eW eR eM eI hNl h ea em eb hR hn E hgx
  go_enter fM, Try.ntmps46
  go_wp2_with fail
  go_loopw [10, 11] (fun u v wr => ∃ i j : Nat, u = .int .i64 (i : Int) ∧ v = .int .i64 (j : Int) ∧ m ≤ i ∧ i ≤ j ∧ j ≤ b ∧ (∀ t y, t < i - m → R[t]? = some y → ltV y.v x.v = true) ∧ (∀ t y, j - m ≤ t → R[t]? = some y → ltV y.v x.v = false) ∧ Grw w wr) (fun u v _ => (intOf v).toNat - (intOf u).toNat)
  case atStart =>
    refine ⟨m, b, rfl, rfl, Nat.le_refl _, by have := EA.out; omega, Nat.le_refl _, fun t y h1 => by omega, fun t y h1 h2 => ?_, Grw.refl _⟩
    have := (List.getElem?_eq_some_iff.1 h2).1
    have := EA.out
    omega
  case round =>
    obtain ⟨i, j, rfl, rfl, h1, h2, h3, hlo, hhi, gw⟩ := hrel
    rename World => WL
    have HW : Hid (Grw w WL) := gw
    by_cases hij : i < j
    · have d1 : (i : Int) < (j : Int) := by omega
      have d1b : decide ((i : Int) < (j : Int)) = true := decide_eq_true d1
      obtain ⟨q, eq⟩ : ∃ q, q = (i + j) / 2 := ⟨_, rfl⟩
      have hq : ((i : Int) + (j : Int)) / 2 = (q : Int) := by omega
      have hqN : (q : Int) < (N : Int) := by omega
      have hiN : (i : Int) ≤ 1172812402961 := by omega
      have hjN : (j : Int) ≤ 1172812402961 := by omega
      have hq1 : i ≤ q := by omega
      have hq2 : q < j := by omega
      obtain ⟨y, hy⟩ : ∃ y, R[q - m]? = some y := ⟨_, List.getElem?_eq_getElem (by have := EA.out; omega)⟩
      have lx := (HO.out.on gw.kept).loadg EE.out HGX.out P
      have ly := (HO.out.on gw.kept).loadg EE.out (HGY.out q y (by omega) hy) P
      have hcc := fun W => HC.out y.v x.v W
      have HYES : Hid (decide (compV y.v x.v < 0) = true → ∀ t z, t < q + 1 - m → R[t]? = some z → ltV z.v x.v = true) := fun e t z h5 h6 => mono_fore HR.out HNN.out h6 hy (by omega) e
      have HNO : Hid (decide (compV y.v x.v < 0) = false → ∀ t z, q - m ≤ t → R[t]? = some z → ltV z.v x.v = false) := fun e t z h5 h6 => by
        cases h7 : ltV z.v x.v
        · rfl
        · have := mono_fore HR.out HNN.out hy h6 h5 h7
          unfold ltV at this
          rw [this] at e
          cases e
      have HLO : Hid (∀ t y, t < i - m → R[t]? = some y → ltV y.v x.v = true) := hlo
      have HHI : Hid (∀ t y, j - m ≤ t → R[t]? = some y → ltV y.v x.v = false) := hhi
      clear hlo hhi gw hy eq
      generalize compV y.v x.v = cv at hcc HYES HNO
      obtain ⟨cx, ecx⟩ : ∃ c, c = enc x.v := ⟨_, rfl⟩
      obtain ⟨cy, ecy⟩ : ∃ c, c = enc y.v := ⟨_, rfl⟩
      simp only [en] at lx ly
      rw [← ecx] at lx hcc
      rw [← ecy] at ly hcc
      clear ecx ecy
      by_cases hcv : cv < 0
      · have dc : decide (cv < 0) = true := decide_eq_true hcv
        go_wp2_with fail
        go_quiet_grown (first | (go_at_fn 17; refine Calls.grown_of (hcc _)))
        clear lx ly hcc
        have G : Hid (Grw WL (Sort.grow (WL.drewN nq) osq)) := ⟨nq, osq, rfl⟩
        go_wp2_with fail
        go_roundw
        case rel => exact ⟨q + 1, j, by simp, rfl, by omega, by omega, h3, HYES.out dc, HHI.out, HW.out.trans G.out⟩
        case measure => simp only [intOf]; omega
      · have dc : decide (cv < 0) = false := decide_eq_false hcv
        go_wp2_with fail
        go_quiet_grown (first | (go_at_fn 17; refine Calls.grown_of (hcc _)))
        clear lx ly hcc
        have G : Hid (Grw WL (Sort.grow (WL.drewN nq) osq)) := ⟨nq, osq, rfl⟩
        go_wp2_with fail
        go_roundw
        case rel => exact ⟨i, q, rfl, rfl, h1, hq1, by omega, HLO.out, HNO.out dc, HW.out.trans G.out⟩
        case measure => simp only [intOf]; omega
    · obtain rfl : j = i := by omega
      have d1 : ¬ (j : Int) < (j : Int) := by omega
      obtain ⟨c, ec⟩ : ∃ c, c = j - m := ⟨_, rfl⟩
      have hac : (j : Int) - 1 = ((a + c : Nat) : Int) := by have := EA.out; omega
      have hcR : c ≤ R.length := by have := EA.out; omega
      have HF : Hid (R.take c ++ [x] ++ R.drop c = srt ltN ([x] ++ R)) := put_fore HR.out HNN.out (fun t y h5 h6 => hlo t y (by omega) h6) (fun t y h5 h6 => hhi t y (by omega) h6)
      have HO2 : Hid (Own (en enc) k 30 base WL (.slice (some ⟨g, 0, none⟩) N cap) (A ++ (R.take 0 ++ [x] ++ R.drop 0) ++ C)) := by
        have := HO.out.on gw.kept
        show Own _ _ _ _ _ _ _
        simpa [List.append_assoc] using this
      have HS2 : Hid (Same (fun b => b = g) w WL) := gw.kept.to _
      obtain ⟨f, ef⟩ : ∃ f, f = a + c := ⟨_, rfl⟩
      rw [← ef] at hac
      have hfN : f < N := by have := EA.out; omega
      clear hlo hhi gw ec HGY HC
      go_wp2_with fail
      go_loopw [13] (fun u wr => ∃ t : Nat, u = .int .i64 ((a + t : Nat) : Int) ∧ t ≤ c ∧ Own (en enc) k 30 base wr (.slice (some ⟨g, 0, none⟩) N cap) (A ++ (R.take t ++ [x] ++ R.drop t) ++ C) ∧ Same (fun b => b = g) w wr) (fun u _ => ((f : Int) - intOf u).toNat)
      case atStart => exact ⟨0, rfl, Nat.zero_le _, HO2.out, HS2.out⟩
      case round =>
        obtain ⟨t, rfl, ht, ho, hs⟩ := hrel
        clear HO2 HS2
        rename World => WR
        obtain ⟨p, ep⟩ : ∃ p, p = a + t := ⟨_, rfl⟩
        rw [← ep]
        by_cases htc : t < c
        · have d2 : (p : Int) < (f : Int) := by omega
          have d2b : decide ((p : Int) < (f : Int)) = true := decide_eq_true d2
          obtain ⟨y, hy⟩ : ∃ y, R[t]? = some y := ⟨_, List.getElem?_eq_getElem (by omega)⟩
          obtain ⟨g1, g2⟩ := get_up (A := A) (x := x) (C := C) hy
          have hsu := shift_up (A := A) (x := x) (C := C) hy
          obtain ⟨p1, ep1⟩ : ∃ p1, p1 = p + 1 := ⟨_, rfl⟩
          rw [show A.length + t = p by have := EA.out; omega, ← ep1] at g2 hsu
          rw [show A.length + t = p by have := EA.out; omega] at g1
          obtain ⟨⟨l1, l2, s1, s2⟩, o3, k3⟩ := ho.swap EE.out g1 g2 P
          rw [← swp_eq g1 g2, hsu] at o3
          have HO3 : Hid (Own (en enc) k 30 base _ _ (A ++ (R.take (t + 1) ++ [x] ++ R.drop (t + 1)) ++ C)) := o3
          have HK3 : Hid (Same (fun b => b = g) w _) := hs.trans' k3
          have kx : (en enc x).length = k := EE.out.len x
          have ky : (en enc y).length = k := EE.out.len y
          have hp1 : (p : Int) + 1 = (p1 : Int) := by omega
          have hpN : (p : Int) < (N : Int) := by omega
          have hp1N : (p1 : Int) < (N : Int) := by omega
          have hpb : (p1 : Int) ≤ 1172812402961 := by omega
          have HPP : Hid (p1 = a + (t + 1)) := by show _ = _; omega
          clear ho hs g1 g2 hsu o3 k3 hy ep1 ep
          generalize en enc x = cx at *
          generalize en enc y = cy at *
          go_wp2_with fail
          go_big_region_o
          all_goals (go_wp2_with fail)
          go_roundw
          case rel => exact ⟨t + 1, by rw [← HPP.out], by omega, HO3.out, HK3.out⟩
          case measure => simp only [intOf]; omega
        · obtain rfl : c = t := by omega
          have d2 : ¬ (p : Int) < (f : Int) := by omega
          have d2b : decide ((p : Int) < (f : Int)) = false := decide_eq_false d2
          rw [HF.out] at ho
          have HE : Hid (Own (en enc) k 30 base WR (.slice (some ⟨g, 0, none⟩) N cap) (A ++ srt ltN ([x] ++ R) ++ C) ∧ Same (fun b => b = g) w WR) := ⟨ho, hs⟩
          clear ho hs HF ep
          go_wp2_with fail
          refine bodyPost_ret (results_none rfl _ _ _) rfl ?_
          have h9 := HE.out
          exact ⟨rfl, by simpa only [List.append_assoc, List.cons_append, List.nil_append] using h9⟩
end Go.Proofs.Ytnfkjblhnpnaeaa
