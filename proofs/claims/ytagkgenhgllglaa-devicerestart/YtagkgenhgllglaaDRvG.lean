/- What is proved: the document's device: a write that is neither refused nor of the wrong size: whole, failing, or torn by a crash; the device and the data lie in memory. -/
import Derived.Test.YtagkgenhgllglaaDRvF
namespace Go.Proofs.Ytagkgenhgllglaa
open Go.RowKit

theorem Rv.torn0 {w : World} {m : M} {p : RP} {Q : List Rb} {off : Nat} {dn : Bool} (h : Rv w m p Q) (hd : m.down = dn) : Rv w (m.torn off [] dn) p Q := by
  have e : m.torn off [] dn = m := by
    unfold M.torn
    rw [splice_nil, ← hd]
  rw [e]
  exact h
theorem torn_torn (m : M) (off : Nat) (cs : List Int) (dn : Bool) : (m.torn 0 [] dn).torn off cs dn = m.torn off cs dn := by
  unfold M.torn
  rw [splice_nil]

theorem torn_zero (m : M) (off : Nat) (dn : Bool) : m.torn 0 [] dn = m.torn off [] dn := by
  unfold M.torn
  rw [splice_nil, splice_nil]

/-- What a write of the document's device leaves. -/
def WPost (w : World) (p : RP) (Q : List Rb) (x : Int × M) (e : Ending) (w' : World) : Prop := e = .returned (.int .i64 x.1) ∧ Rv w' x.2 p Q ∧ Same (ROwn p) w w'

set_option maxRecDepth 100000 in
set_option maxHeartbeats 800000 in
theorem rw_yes {w : World} {m : M} {p : RP} {Q : List Rb} (h : Rv w m p Q) (n : Nat) (a : Option Addr) (cap : Nat) (d : List Int) (hdn : m.down = false) (hn : n < m.S) (hdl : d.length = m.B) (ha : BytesAt w a d) (hap : ∀ k, InB a d.length k → ¬ ROwn p k) (hk : m.k + 1 < 4611686018427387904) :
    Calls Try.prog 35 #[.pointer (some ⟨p.db, 0, none⟩), .int .i64 n, .slice a d.length cap] w (WPost w p Q (m.write n d)) := by
  have hX := write_in (m := m) (d := d) hdn hn hdl
  rw [crash_isK, fails_isK] at hX
  obtain ⟨X, eX⟩ : ∃ X, X = m.write n d := ⟨_, rfl⟩
  rw [← eX]
  rw [← eX] at hX
  have c10 := h.counts.2.2.2.2
  have c8 := h.counts.2.2.1
  have c1 := h.cells.2.1
  have c0 := h.cells.1
  have f8 := h.frz 8
  have hdbl := lt_of_heap h.dev
  have hcW : (m.cW : Int) < 4611686018427387904 := by have := h.good.cW; omega
  have hcT : (m.cT : Int) < 4611686018427387904 := by have := h.good.cT; omega
  have b1 := h.good.b1
  have b2 := h.good.b2
  have s2 := h.good.s2
  rw [hdn] at c10
  have H1 : Rv (w.setCell ⟨p.db, 8, none⟩ (.int .i64 ((m.cW : Int) + 1))) m.cW1 p Q := h.cW1
  have S1 : Same (ROwn p) w (w.setCell ⟨p.db, 8, none⟩ (.int .i64 ((m.cW : Int) + 1))) := (Same.refl (ROwn p) w).setCell _ (.inr (.inl rfl)) _
  have HSL : Hid (m.scr.length = m.B * m.S) := h.good.scr
  have HDN : Hid _ := hdn
  obtain ⟨w1, ew1⟩ : ∃ w1, w1 = w.setCell ⟨p.db, 8, none⟩ (.int .i64 ((m.cW : Int) + 1)) := ⟨_, rfl⟩
  rw [← ew1] at H1 S1
  have hc8 : w1.cell? ⟨p.db, 8, none⟩ = some (.int .i64 ((m.cW : Int) + 1)) := H1.counts.2.2.1
  have HS4 : Hid _ := strikes_any H1 4 ((m.cW : Int) + 1)
  have HS3 : Hid (∀ W, Kept w1 W → _) := fun W (k : Kept w1 W) => strikes_any (H1.on k) 3 ((m.cW : Int) + 1)
  have HDA : Hid (∀ W, Same (ROwn p) w W → BytesAt W a d) := fun W k => ha.kept k hap
  obtain ⟨B, eB⟩ : ∃ B, B = m.B := ⟨_, rfl⟩
  rw [← eB] at b1 b2 c0 hdl
  obtain ⟨S, eS⟩ : ∃ S, S = m.S := ⟨_, rfl⟩
  rw [← eS] at c1 hn s2
  rw [hdl]
  obtain ⟨lo, elo⟩ : ∃ lo, lo = n * B := ⟨_, rfl⟩
  have hlo : (n : Int) * (B : Int) = (lo : Int) := by rw [elo]; simp
  have hhs : lo + B ≤ B * S := by rw [elo, ← Nat.succ_mul, Nat.mul_comm]; exact Nat.mul_le_mul_left _ hn
  have hbs : B * S ≤ 4194304 := Nat.le_trans (Nat.mul_le_mul b2 s2) (by decide)
  obtain ⟨BS, eBS⟩ : ∃ BS, BS = B * S := ⟨_, rfl⟩
  rw [← eBS] at hhs hbs
  have EBS : Hid (m.B * m.S = BS) := by rw [eBS, eB, eS]; exact rfl
  have EB : Hid _ := eB
  have EDL : Hid _ := hdl
  have HLO : Hid _ := hlo
  have d1 : decide ((n : Int) < 0) = false := decide_eq_false (by omega)
  have d2 : decide ((S : Int) ≤ (n : Int)) = false := decide_eq_false (by omega)
  have d2n : decide (S ≤ n) = false := decide_eq_false (by omega)
  have d2' : ¬ (S ≤ n) := by omega
  rw [← eB, ← elo] at hX
  have R1 : Hid _ := H1
  have SS1 : Hid _ := S1
  have HFN : Hid (∀ f ∈ m.F, Fine B f) := fun f hf => by rw [eB]; exact h.good.fine f hf
  have EX : Hid _ := hX
  have EW1 : Hid _ := ew1
  clear h hX hdn H1 S1 eB eS elo eBS eX hk ha hap hlo hdl
  go_enter Try.func35, Try.ntmps35
  go_upto_region 8 with fail
  rw [← ew1]
  clear ew1
  go_wp2_with fail
  refine Calls.mono HS4.out ?_
  rintro e w2 ⟨hst, k2⟩
  have R2 : Hid _ := Rv.on R1.out k2
  have S2 : Hid (Same (ROwn p) w w2) := SS1.out.trans' (Kept.to k2 _)
  have K2 : Hid _ := k2
  rcases hst with ⟨i, f, rfl, hi, hf⟩ | ⟨rfl, hf⟩
  · have EX2 : Hid (X = (34, m.cW1.hit.torn lo (d.take f.p.toNat) true)) := by
      have := EX.out
      rw [show List.find? (isK 4 ((m.cW + 1 : Nat) : Int)) m.F = some f from hf] at this
      exact this
    obtain ⟨-, -, -, pp⟩ := HFN.out f (List.mem_of_find?_eq_some hf)
    obtain ⟨kp, ekp⟩ := Int.eq_ofNat_of_zero_le pp.1
    have hkp : kp ≤ B := by omega
    have HIF : Hid (m.F[i]? = some f) := hi
    have EKP : Hid _ := ekp
    have g1 : decide (0 ≤ (i : Int)) = true := decide_eq_true (by omega)
    have c9 : w2.cell? ⟨p.db, 9, none⟩ = some (.int .i64 m.cT) := (R2.out).counts.2.2.2.1
    have c10' : w2.cell? ⟨p.db, 10, none⟩ = some (.bool false) := by
      have := (R2.out).counts.2.2.2.2
      rw [show m.cW1.down = false from HDN.out] at this
      exact this
    have f9 := Rv.frz R2.out 9
    have f10 := Rv.frz R2.out 10
    have l2 : p.db < w2.heap.size := lt_of_heap (R2.out).dev
    have R3 : Hid (Rv ((w2.setCell ⟨p.db, 9, none⟩ (.int .i64 ((m.cT : Int) + 1))).setCell ⟨p.db, 10, none⟩ (.bool true)) (m.cW1.hit.torn lo [] true) p Q) := by
      have := (Rv.hits R2.out).dies
      rw [torn_zero _ lo] at this
      exact this
    have S3 : Hid (Same (ROwn p) w ((w2.setCell ⟨p.db, 9, none⟩ (.int .i64 ((m.cT : Int) + 1))).setCell ⟨p.db, 10, none⟩ (.bool true))) := (S2.out.setCell _ (.inr (.inl rfl)) _).setCell _ (.inr (.inl rfl)) _
    clear hi hf pp k2 ekp HS4 HS3
    go_wp2_with fail
    generalize ((w2.setCell ⟨p.db, 9, none⟩ (.int .i64 ((m.cT : Int) + 1))).setCell ⟨p.db, 10, none⟩ (.bool true)) = w3 at R3 S3 ⊢
    obtain ⟨nF, eF⟩ : ∃ nF, nF = m.F.length := ⟨_, rfl⟩
    have EF : Hid _ := eF
    have hiF : (i : Int) < (nF : Int) := by have := (List.getElem?_eq_some_iff.1 HIF.out).1; omega
    have hlo := HLO.out
    clear c9 c10' f9 f10 l2 eF c8 c10 hc8 f8
    go_loopw [8] (fun s wr => ∃ j : Nat, j ≤ kp ∧ s = .int .i64 j ∧ Rv wr (m.cW1.hit.torn lo (d.take j) true) p Q ∧ Same (ROwn p) w wr) (fun s _ => kp - (intOf s).toNat)
    case atStart => exact ⟨0, Nat.zero_le _, rfl, R3.out, S3.out⟩
    case round =>
      obtain ⟨j, hj, rfl, hr, ks⟩ := hrel
      have HRR : Hid _ := hr
      have KS : Hid _ := ks
      have x0 : wr.cell? ⟨p.db, 0, none⟩ = some (.int .i64 B) := by rw [EB.out]; exact hr.cells.1
      have x3 : wr.cell? ⟨p.db, 3, none⟩ = some (.slice (some ⟨p.sb, 0, none⟩) BS BS) := by rw [← EBS.out]; exact hr.cells.2.2.2.1
      have x4 : wr.cell? ⟨p.db, 4, none⟩ = some (.slice p.fa nF p.fcap) := by rw [EF.out]; exact hr.cells.2.2.2.2.1
      have xl : p.db < wr.heap.size := lt_of_heap hr.dev
      obtain ⟨fb, fo, e1, hfb, -, -, -, q3⟩ : ∃ fb off, p.fa = some ⟨fb, off, none⟩ ∧ fb < wr.heap.size ∧ wr.cell? ⟨fb, off + i * 4, none⟩ = some (.int .i64 f.k) ∧ wr.cell? ⟨fb, off + i * 4 + 1, none⟩ = some (.int .i64 f.b) ∧ wr.cell? ⟨fb, off + i * 4 + 2, none⟩ = some (.int .i64 f.n) ∧ wr.cell? ⟨fb, off + i * 4 + 3, none⟩ = some (.int .i64 f.p) := hr.flt i f HIF.out
      rw [e1] at x4
      rw [EKP.out] at q3
      by_cases hlt : j < kp
      · have a1 : decide ((j : Int) < (kp : Int)) = true := by simp only [decide_eq_true_eq]; omega
        have a2 : (j : Int) < (kp : Int) := by omega
        have a3 : (j : Int) < (B : Int) := by omega
        have a4 : (lo : Int) + (j : Int) < (BS : Int) := by omega
        obtain ⟨x, hx⟩ : ∃ x, d[j]? = some x := ⟨_, List.getElem?_eq_getElem (by rw [EDL.out]; omega)⟩
        obtain ⟨ab, ao, e2, hab, cx⟩ := HDA.out wr ks j x hx
        have hsl : (splice m.scr lo (d.take j)).length = BS := by rw [length_splice _ _ _ (by rw [HSL.out, EBS.out, List.length_take]; omega), HSL.out, EBS.out]
        obtain ⟨y, hy⟩ : ∃ y, (splice m.scr lo (d.take j))[lo + j]? = some y := ⟨_, List.getElem?_eq_getElem (by rw [hsl]; omega)⟩
        have cy : wr.cell? ⟨p.sb, lo + j, none⟩ = some (.int .u8 y) := by
          obtain ⟨b', off', q1, q2, q4⟩ := bytes_row hr.scr (lo + j) y hy
          cases q1
          rwa [Nat.zero_add] at q4
        have fy : wr.frozen? ⟨p.sb, lo + j, none⟩ = false := frozen_of hr.scr _
        have sl : p.sb < wr.heap.size := lt_of_heap hr.scr
        have HT : Hid (d.take (j + 1) = d.take j ++ [x]) := by rw [List.take_add_one, hx]; rfl
        have hjl : (d.take j).length = j := by rw [List.length_take, EDL.out]; omega
        have HNX : Hid (Rv (wr.setCell ⟨p.sb, lo + j, none⟩ (.int .u8 x)) (m.cW1.hit.torn lo (d.take (j + 1)) true) p Q) := by
          have := Rv.put (m := m.cW1.hit) hr HSL.out (by rw [hjl]; show lo + j < m.B * m.S; rw [EBS.out]; omega) x
          rw [hjl] at this
          rw [HT.out]
          exact this
        have KNX : Hid (Same (ROwn p) w (wr.setCell ⟨p.sb, lo + j, none⟩ (.int .u8 x))) := ks.setCell _ (.inr (.inr (.inl rfl))) _
        have hclo : ((lo + j : Nat) : Int) = (lo : Int) + (j : Int) := by omega
        subst e2
        clear hr ks hx hy hsl hjl e1
        go_wp2_with fail
        go_region
        go_wp2_with fail
        go_roundw
        case rel => exact ⟨j + 1, by omega, by simp, Rv.on HNX.out ((Same.refl _ _).drew), KNX.out.drew⟩
        case measure => simp only [intOf]; omega
      · have a1 : decide ((j : Int) < (kp : Int)) = false := by simp only [decide_eq_false_iff_not]; omega
        obtain rfl : j = kp := by omega
        have EX3 : Hid (X = (34, m.cW1.hit.torn lo (d.take j) true)) := by rw [EX2.out, EKP.out]; exact rfl
        clear hr ks e1
        go_wp2_with fail
        go_ret
        rw [EX3.out]
        exact ⟨rfl, HRR.out, KS.out⟩
  · have g1 : decide (0 ≤ (-1 : Int)) = false := rfl
    have HFD : Hid _ := hf
    have c8' : w2.cell? ⟨p.db, 8, none⟩ = some (.int .i64 ((m.cW : Int) + 1)) := (R2.out).counts.2.2.1
    have l2 : p.db < w2.heap.size := lt_of_heap (R2.out).dev
    clear hf k2 HS4 c8 c10 hc8 f8
    go_wp2_with fail
    refine Calls.mono (HS3.out _ K2.out) ?_
    rintro e w3 ⟨hst, k3⟩
    have R3 : Hid _ := Rv.on R2.out k3
    have S3 : Hid (Same (ROwn p) w w3) := S2.out.trans' (Kept.to k3 _)
    rcases hst with ⟨i, f, rfl, hi, hf⟩ | ⟨rfl, hf⟩
    · have EX2 : Hid (X = (38, m.cW1.hit)) := by
        have := EX.out
        rw [show List.find? (isK 4 ((m.cW + 1 : Nat) : Int)) m.F = none from HFD.out, show List.find? (isK 3 ((m.cW + 1 : Nat) : Int)) m.F = some f from hf] at this
        exact this
      have g2 : decide (0 ≤ (i : Int)) = true := decide_eq_true (by omega)
      have c9 : w3.cell? ⟨p.db, 9, none⟩ = some (.int .i64 m.cT) := (R3.out).counts.2.2.2.1
      have f9 := Rv.frz R3.out 9
      have l3 : p.db < w3.heap.size := lt_of_heap (R3.out).dev
      clear hi hf k3 HS3
      go_wp2_with fail
      go_ret
      rw [EX2.out]
      exact ⟨rfl, Rv.hits R3.out, S3.out.setCell _ (.inr (.inl rfl)) _⟩
    · have EX2 : Hid (X = (0, m.cW1.torn lo d false)) := by
        have := EX.out
        rw [show List.find? (isK 4 ((m.cW + 1 : Nat) : Int)) m.F = none from HFD.out, show List.find? (isK 3 ((m.cW + 1 : Nat) : Int)) m.F = none from hf] at this
        exact this
      have l3 : p.db < w3.heap.size := lt_of_heap (R3.out).dev
      have hlo := HLO.out
      clear hf k3 HS3
      go_wp2_with fail
      go_loopw [10] (fun s wr => ∃ j : Nat, j ≤ B ∧ s = .int .i64 j ∧ Rv wr (m.cW1.torn lo (d.take j) false) p Q ∧ Same (ROwn p) w wr) (fun s _ => B - (intOf s).toNat)
      case atStart => exact ⟨0, Nat.zero_le _, rfl, Rv.torn0 R3.out HDN.out, S3.out⟩
      case round =>
        obtain ⟨j, hj, rfl, hr, ks⟩ := hrel
        have HRR : Hid _ := hr
        have KS : Hid _ := ks
        have x0 : wr.cell? ⟨p.db, 0, none⟩ = some (.int .i64 B) := by rw [EB.out]; exact hr.cells.1
        have x3 : wr.cell? ⟨p.db, 3, none⟩ = some (.slice (some ⟨p.sb, 0, none⟩) BS BS) := by rw [← EBS.out]; exact hr.cells.2.2.2.1
        have xl : p.db < wr.heap.size := lt_of_heap hr.dev
        by_cases hlt : j < B
        · have a1 : decide ((j : Int) < (B : Int)) = true := by simp only [decide_eq_true_eq]; omega
          have a3 : (j : Int) < (B : Int) := by omega
          have a4 : (lo : Int) + (j : Int) < (BS : Int) := by omega
          obtain ⟨x, hx⟩ : ∃ x, d[j]? = some x := ⟨_, List.getElem?_eq_getElem (by rw [EDL.out]; omega)⟩
          obtain ⟨ab, ao, e2, hab, cx⟩ := HDA.out wr ks j x hx
          have hsl : (splice m.scr lo (d.take j)).length = BS := by rw [length_splice _ _ _ (by rw [HSL.out, EBS.out, List.length_take]; omega), HSL.out, EBS.out]
          obtain ⟨y, hy⟩ : ∃ y, (splice m.scr lo (d.take j))[lo + j]? = some y := ⟨_, List.getElem?_eq_getElem (by rw [hsl]; omega)⟩
          have cy : wr.cell? ⟨p.sb, lo + j, none⟩ = some (.int .u8 y) := by
            obtain ⟨b', off', q1, q2, q4⟩ := bytes_row hr.scr (lo + j) y hy
            cases q1
            rwa [Nat.zero_add] at q4
          have fy : wr.frozen? ⟨p.sb, lo + j, none⟩ = false := frozen_of hr.scr _
          have sl : p.sb < wr.heap.size := lt_of_heap hr.scr
          have HT : Hid (d.take (j + 1) = d.take j ++ [x]) := by rw [List.take_add_one, hx]; rfl
          have hjl : (d.take j).length = j := by rw [List.length_take, EDL.out]; omega
          have HNX : Hid (Rv (wr.setCell ⟨p.sb, lo + j, none⟩ (.int .u8 x)) (m.cW1.torn lo (d.take (j + 1)) false) p Q) := by
            have := Rv.put (m := m.cW1) hr HSL.out (by rw [hjl]; show lo + j < m.B * m.S; rw [EBS.out]; omega) x
            rw [hjl] at this
            rw [HT.out]
            exact this
          have KNX : Hid (Same (ROwn p) w (wr.setCell ⟨p.sb, lo + j, none⟩ (.int .u8 x))) := ks.setCell _ (.inr (.inr (.inl rfl))) _
          subst e2
          clear hr ks hx hy hsl hjl
          go_wp2_with fail
          go_region
          go_wp2_with fail
          go_roundw
          case rel => exact ⟨j + 1, by omega, by simp, Rv.on HNX.out ((Same.refl _ _).drew), KNX.out.drew⟩
          case measure => simp only [intOf]; omega
        · have a1 : decide ((j : Int) < (B : Int)) = false := by simp only [decide_eq_false_iff_not]; omega
          obtain rfl : j = B := by omega
          have EX3 : Hid (X = (0, m.cW1.torn lo (d.take j) false)) := by rw [EX2.out, ← EDL.out, List.take_length]; exact rfl
          clear hr ks
          go_wp2_with fail
          go_ret
          rw [EX3.out]
          exact ⟨rfl, HRR.out, KS.out⟩
end Go.Proofs.Ytagkgenhgllglaa
