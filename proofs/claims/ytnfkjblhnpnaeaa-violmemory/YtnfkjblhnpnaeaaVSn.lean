/- What is proved: symMerge of the library's stable sort lays one violation behind a sorted part into it; in any program with this text, the row lies in memory. -/
import Derived.Test.YtnfkjblhnpnaeaaVSm
namespace Go.Proofs.Ytnfkjblhnpnaeaa
open Go.RowKit

/-- One moves back by one place. -/
theorem shift_dn {A L C : List Nb} {x y : Nb} {t : Nat} (hx : L[t]? = some x) : ((A ++ (L.take (t + 1) ++ [y] ++ L.drop (t + 1)) ++ C).set (A.length + t + 1) x).set (A.length + t) y = A ++ (L.take t ++ [y] ++ L.drop t) ++ C := by
  have ht := (List.getElem?_eq_some_iff.1 hx).1
  have e1 : (L.take t).length = t := by rw [List.length_take]; omega
  have hd : L.drop t = x :: L.drop (t + 1) := by
    obtain ⟨h1, rfl⟩ := List.getElem?_eq_some_iff.1 hx
    exact List.drop_eq_getElem_cons h1
  have e2 : A ++ (L.take (t + 1) ++ [y] ++ L.drop (t + 1)) ++ C = (A ++ L.take t) ++ (x :: y :: (L.drop (t + 1) ++ C)) := by rw [List.take_add_one, hx]; simp
  have e3 : (A ++ L.take t).length = A.length + t := by rw [List.length_append, e1]
  have s1 := set_append_at (A ++ L.take t) (x :: y :: (L.drop (t + 1) ++ C)) 1 x
  have s2 := set_append_at (A ++ L.take t) (x :: x :: (L.drop (t + 1) ++ C)) 0 y
  rw [e3, List.set_cons_succ, List.set_cons_zero] at s1
  rw [e3, List.set_cons_zero] at s2
  simp only [Nat.add_zero] at s2
  rw [e2, s1, s2, hd]
  simp
theorem get_dn {A L C : List Nb} {x y : Nb} {t : Nat} (hx : L[t]? = some x) : (A ++ (L.take (t + 1) ++ [y] ++ L.drop (t + 1)) ++ C)[A.length + t]? = some x ∧ (A ++ (L.take (t + 1) ++ [y] ++ L.drop (t + 1)) ++ C)[A.length + t + 1]? = some y := by
  have ht := (List.getElem?_eq_some_iff.1 hx).1
  have e1 : (L.take t).length = t := by rw [List.length_take]; omega
  have e2 : A ++ (L.take (t + 1) ++ [y] ++ L.drop (t + 1)) ++ C = (A ++ L.take t) ++ (x :: y :: (L.drop (t + 1) ++ C)) := by rw [List.take_add_one, hx]; simp
  have e3 : (A ++ L.take t).length = A.length + t := by rw [List.length_append, e1]
  rw [e2]
  constructor
  · rw [List.getElem?_append_right (by omega), e3, Nat.sub_self]; rfl
  · rw [List.getElem?_append_right (by omega), e3, show A.length + t + 1 - (A.length + t) = 1 by omega]; rfl
set_option maxRecDepth 100000 in
set_option maxHeartbeats 3200000 in
theorem sym2 {P : Program} {k : Nat} {enc : Vl → List Value} (AS : As P k enc) {base : Nat} {w : World} {g N cap : Nat} {A L C : List Nb} {y : Nb} (h : Own (en enc) k 30 base w (.slice (some ⟨g, 0, none⟩) N cap) (A ++ L ++ [y] ++ C)) (hN : N ≤ 1172812402961) (hL : StS L) (hn : ∀ x ∈ L, x.n < y.n) (hl0 : 1 < L.length) :
    Calls P 46 #[.slice (some ⟨g, 0, none⟩) N cap, .int .i64 (A.length : Int), .int .i64 ((A.length + L.length : Nat) : Int), .int .i64 ((A.length + L.length + 1 : Nat) : Int), cmpF] w fun e w' => e = .returned (.tuple #[]) ∧ Own (en enc) k 30 base w' (.slice (some ⟨g, 0, none⟩) N cap) (A ++ srt ltN (L ++ [y]) ++ C) ∧ Same (fun b => b = g) w w' := by
  obtain ⟨mixed, E, fW, fR, fM, fT, eW, eR, eM, eI, eC, cmp, t0, t3, t4, t28, t77, a0, a3, a4, a28, a30, z0, z3, z4, z28, z30⟩ := AS
  have u28 := run_underlying t28
  have u77 := run_underlying (t77.trans Try.underlying77)
  have t77' := t77.trans Try.underlying77
  have EE : Hid (Ek (en enc) k) := ek_en E
  have HC : Hid (∀ a b W, _) := cmp
  have hNl : N = (A ++ L ++ [y] ++ C).length := h.lt.2
  simp only [List.length_append, List.length_cons, List.length_nil] at hNl
  obtain ⟨a, ea⟩ : ∃ a, a = A.length := ⟨_, rfl⟩
  obtain ⟨m, em⟩ : ∃ m, m = A.length + L.length := ⟨_, rfl⟩
  obtain ⟨b, eb⟩ : ∃ b, b = A.length + L.length + 1 := ⟨_, rfl⟩
  rw [← eb, ← em, ← ea]
  obtain ⟨ll, ell⟩ : ∃ q, q = L.length := ⟨_, rfl⟩
  have hbN : b ≤ N := by omega
  have hma : (m : Int) - (a : Int) = (ll : Int) := by omega
  have hll : ((ll : Int) == 1) = false := by simp; omega
  have hll' : ¬ (ll : Int) = 1 := by omega
  have hbm : (b : Int) - (m : Int) = 1 := by omega
  have hbN2 : (b : Int) ≤ 1172812402961 := by omega
  have hmN : (m : Int) < (N : Int) := by omega
  have EA : Hid (a = A.length ∧ m = A.length + L.length ∧ b = A.length + L.length + 1 ∧ ll = L.length) := ⟨ea, em, eb, ell⟩
  have HO : Hid (Own (en enc) k 30 base w (.slice (some ⟨g, 0, none⟩) N cap) (A ++ L ++ [y] ++ C)) := h
  have HR : Hid (StS L) := hL
  have HNN : Hid (∀ x ∈ L, x.n < y.n) := hn
  have HGX : Hid ((A ++ L ++ [y] ++ C)[m]? = some y) := by
    show _ = _
    rw [List.append_assoc, List.getElem?_append_right (by simp; omega), em, List.length_append, Nat.sub_self]
    rfl
  have HGY : Hid (∀ q x, a ≤ q → L[q - a]? = some x → (A ++ L ++ [y] ++ C)[q]? = some x) := fun q x h1 h2 => by
    have h3 := (List.getElem?_eq_some_iff.1 h2).1
    rw [List.append_assoc, List.getElem?_append_left (by simp; omega), List.getElem?_append_right (by omega), ← ea]
    exact h2
  clear cmp fW fR fT eW eR eM eI hNl h ea em eb hL hn E ell
  go_enter fM, Try.ntmps46
  go_wp2_with fail
  go_loopw [14, 15] (fun u v wr => ∃ i j : Nat, u = .int .i64 (i : Int) ∧ v = .int .i64 (j : Int) ∧ a ≤ i ∧ i ≤ j ∧ j ≤ m ∧ (∀ t x, t < i - a → L[t]? = some x → ltV y.v x.v = false) ∧ (∀ t x, j - a ≤ t → L[t]? = some x → ltV y.v x.v = true) ∧ Grw w wr) (fun u v _ => (intOf v).toNat - (intOf u).toNat)
  case atStart =>
    refine ⟨a, m, rfl, rfl, Nat.le_refl _, by have := EA.out; omega, Nat.le_refl _, fun t y h1 => by omega, fun t y h1 h2 => ?_, Grw.refl _⟩
    have := (List.getElem?_eq_some_iff.1 h2).1
    have := EA.out
    omega
  case round =>
    obtain ⟨i, j, rfl, rfl, h1, h2, h3, hlo, hhi, gw⟩ := hrel
    rename World => WL
    have HW : Hid (Grw w WL) := gw
    by_cases hij : i < j
    · have d1 : (i : Int) < (j : Int) := by omega
      have d1b : decide ((i : Int) < (j : Int)) = true := decide_eq_true d1
      obtain ⟨q, eq⟩ : ∃ q, q = (i + j) / 2 := ⟨_, rfl⟩
      have hq : ((i : Int) + (j : Int)) / 2 = (q : Int) := by omega
      have hqN : (q : Int) < (N : Int) := by omega
      have hiN : (i : Int) ≤ 1172812402961 := by omega
      have hjN : (j : Int) ≤ 1172812402961 := by omega
      have hq1 : i ≤ q := by omega
      have hq2 : q < j := by omega
      obtain ⟨x, hx⟩ : ∃ x, L[q - a]? = some x := ⟨_, List.getElem?_eq_getElem (by have := EA.out; omega)⟩
      have ly := (HO.out.on gw.kept).loadg EE.out HGX.out P
      have lx := (HO.out.on gw.kept).loadg EE.out (HGY.out q x (by omega) hx) P
      have hcc := fun W => HC.out y.v x.v W
      have HYES : Hid (decide (compV y.v x.v < 0) = true → ∀ t z, q - a ≤ t → L[t]? = some z → ltV y.v z.v = true) := fun e t z h5 h6 => mono_back HR.out HNN.out hx h6 h5 e
      have HNO : Hid (decide (compV y.v x.v < 0) = false → ∀ t z, t < q + 1 - a → L[t]? = some z → ltV y.v z.v = false) := fun e t z h5 h6 => by
        cases h7 : ltV y.v z.v
        · rfl
        · have := mono_back HR.out HNN.out h6 hx (by omega) h7
          unfold ltV at this
          rw [this] at e
          cases e
      have HLO : Hid (∀ t x, t < i - a → L[t]? = some x → ltV y.v x.v = false) := hlo
      have HHI : Hid (∀ t x, j - a ≤ t → L[t]? = some x → ltV y.v x.v = true) := hhi
      clear hlo hhi gw hx eq
      generalize compV y.v x.v = cv at hcc HYES HNO
      obtain ⟨cx, ecx⟩ : ∃ c, c = enc x.v := ⟨_, rfl⟩
      obtain ⟨cy, ecy⟩ : ∃ c, c = enc y.v := ⟨_, rfl⟩
      simp only [en] at lx ly
      rw [← ecx] at lx hcc
      rw [← ecy] at ly hcc
      clear ecx ecy
      by_cases hcv : cv < 0
      · have dc : decide (cv < 0) = true := decide_eq_true hcv
        go_wp2_with fail
        go_quiet_grown (first | (go_at_fn 17; refine Calls.grown_of (hcc _)))
        clear lx ly hcc
        have G : Hid (Grw WL (Sort.grow (WL.drewN nq) osq)) := ⟨nq, osq, rfl⟩
        go_wp2_with fail
        go_roundw
        case rel => exact ⟨i, q, rfl, rfl, h1, hq1, by omega, HLO.out, HYES.out dc, HW.out.trans G.out⟩
        case measure => simp only [intOf]; omega
      · have dc : decide (cv < 0) = false := decide_eq_false hcv
        go_wp2_with fail
        go_quiet_grown (first | (go_at_fn 17; refine Calls.grown_of (hcc _)))
        clear lx ly hcc
        have G : Hid (Grw WL (Sort.grow (WL.drewN nq) osq)) := ⟨nq, osq, rfl⟩
        go_wp2_with fail
        go_roundw
        case rel => exact ⟨q + 1, j, by simp, rfl, by omega, by omega, h3, HNO.out dc, HHI.out, HW.out.trans G.out⟩
        case measure => simp only [intOf]; omega
    · obtain rfl : j = i := by omega
      have d1 : ¬ (j : Int) < (j : Int) := by omega
      obtain ⟨c, ec⟩ : ∃ c, c = j - a := ⟨_, rfl⟩
      have hjc : (j : Int) = ((a + c : Nat) : Int) := by have := EA.out; omega
      have hcL : c ≤ L.length := by have := EA.out; omega
      have HF : Hid (L.take c ++ [y] ++ L.drop c = srt ltN (L ++ [y])) := put_back HR.out HNN.out (fun t x h5 h6 => hlo t x (by omega) h6) (fun t x h5 h6 => hhi t x (by omega) h6)
      have HO2 : Hid (Own (en enc) k 30 base WL (.slice (some ⟨g, 0, none⟩) N cap) (A ++ (L.take L.length ++ [y] ++ L.drop L.length) ++ C)) := by
        have := HO.out.on gw.kept
        show Own _ _ _ _ _ _ _
        rw [List.take_length, List.drop_length, List.append_nil]
        simpa [List.append_assoc] using this
      have HS2 : Hid (Same (fun b => b = g) w WL) := gw.kept.to _
      have HJC : Hid (j = a + c) := by show _ = _; omega
      clear hlo hhi gw ec HGY HC hjc
      go_wp2_with fail
      go_loopw [17] (fun u wr => ∃ t : Nat, u = .int .i64 ((a + t : Nat) : Int) ∧ c ≤ t ∧ t ≤ L.length ∧ Own (en enc) k 30 base wr (.slice (some ⟨g, 0, none⟩) N cap) (A ++ (L.take t ++ [y] ++ L.drop t) ++ C) ∧ Same (fun b => b = g) w wr) (fun u _ => (intOf u).toNat)
      case atStart => exact ⟨L.length, by have := EA.out; congr 1; omega, hcL, Nat.le_refl _, HO2.out, HS2.out⟩
      case round =>
        obtain ⟨t, rfl, ht, htl, ho, hs⟩ := hrel
        clear HO2 HS2
        rename World => WR
        obtain ⟨p, ep⟩ : ∃ p, p = a + t := ⟨_, rfl⟩
        rw [← ep]
        by_cases htc : c < t
        · have d2 : (j : Int) < (p : Int) := by have := HJC.out; omega
          have d2b : decide ((p : Int) > (j : Int)) = true := decide_eq_true d2
          obtain ⟨t', et'⟩ : ∃ t', t = t' + 1 := ⟨t - 1, by omega⟩
          subst et'
          obtain ⟨x, hx⟩ : ∃ x, L[t']? = some x := ⟨_, List.getElem?_eq_getElem (by omega)⟩
          obtain ⟨g1, g2⟩ := get_dn (A := A) (y := y) (C := C) hx
          have hsu := shift_dn (A := A) (y := y) (C := C) hx
          obtain ⟨p1, ep1⟩ : ∃ p1, p1 = p - 1 := ⟨_, rfl⟩
          rw [show A.length + t' + 1 = p by have := EA.out; omega] at g2 hsu
          rw [show A.length + t' = p1 by have := EA.out; omega] at g1 hsu
          obtain ⟨⟨l1, l2, s1, s2⟩, o3, k3⟩ := ho.swap EE.out g2 g1 P
          rw [← swp_eq g2 g1, hsu] at o3
          have HO3 : Hid (Own (en enc) k 30 base _ _ (A ++ (L.take t' ++ [y] ++ L.drop t') ++ C)) := o3
          have HK3 : Hid (Same (fun b => b = g) w _) := hs.trans' k3
          have kx : (en enc x).length = k := EE.out.len x
          have ky : (en enc y).length = k := EE.out.len y
          have hp1 : (p : Int) - 1 = (p1 : Int) := by omega
          have hpN : (p : Int) < (N : Int) := by have := EA.out; omega
          have hp1N : (p1 : Int) < (N : Int) := by omega
          have hpb : (p : Int) ≤ 1172812402961 := by omega
          have HPP : Hid (p1 = a + t') := by show _ = _; omega
          have HMS : Hid (p1 < p) := by show _ < _; omega
          clear ho hs g1 g2 hsu o3 k3 hx ep1 ep
          generalize en enc x = cx at *
          generalize en enc y = cy at *
          go_wp2_with fail
          go_big_region_o
          all_goals (go_wp2_with fail)
          go_roundw
          case rel => exact ⟨t', by rw [← HPP.out], by omega, by omega, HO3.out, HK3.out⟩
          case measure => have e : p1 < p := HMS.out; simp only [intOf]; omega
        · obtain rfl : c = t := by omega
          have d2 : ¬ (j : Int) < (p : Int) := by have := HJC.out; omega
          have d2b : decide ((p : Int) > (j : Int)) = false := decide_eq_false d2
          rw [HF.out] at ho
          have HE : Hid (Own (en enc) k 30 base WR (.slice (some ⟨g, 0, none⟩) N cap) (A ++ srt ltN (L ++ [y]) ++ C) ∧ Same (fun b => b = g) w WR) := ⟨ho, hs⟩
          clear ho hs HF ep
          go_wp2_with fail
          refine bodyPost_ret (results_none rfl _ _ _) rfl ?_
          have h9 := HE.out
          exact ⟨rfl, by simpa only [List.append_assoc, List.cons_append, List.nil_append] using h9⟩
end Go.Proofs.Ytnfkjblhnpnaeaa
