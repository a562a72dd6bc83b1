/- What is proved: the library's stable sort sorts a row, those alike as they stood; in any program with this text, the row lies in memory. -/
import Derived.Test.YtnfkjblhnpnaeaaVSp
namespace Go.Proofs.Ytnfkjblhnpnaeaa
open Go.RowKit

set_option maxRecDepth 100000 in
set_option maxHeartbeats 6400000 in
theorem stable_p {P : Program} {k : Nat} {enc : Vl → List Value} (AS : As P k enc) {base : Nat} {w : World} {g N cap : Nat} {X : List Nb} (h : Own (en enc) k 30 base w (.slice (some ⟨g, 0, none⟩) N cap) X) (hN : N ≤ 1172812402961) (hX : X.Pairwise fun x y => x.n < y.n)
    (HI : ∀ (W : World) (A Y C : List Nb), Own (en enc) k 30 base W (.slice (some ⟨g, 0, none⟩) N cap) (A ++ Y ++ C) → Y.Pairwise (fun x y => x.n < y.n) → Calls P 45 #[.slice (some ⟨g, 0, none⟩) N cap, .int .i64 (A.length : Int), .int .i64 ((A.length + Y.length : Nat) : Int), cmpF] W fun e w' => e = .returned (.tuple #[]) ∧ Own (en enc) k 30 base w' (.slice (some ⟨g, 0, none⟩) N cap) (A ++ srt ltN Y ++ C) ∧ Same (fun b => b = g) W w') :
    Calls P 40 #[.slice (some ⟨g, 0, none⟩) N cap, .int .i64 (N : Int), cmpF] w fun e w' => e = .returned (.tuple #[]) ∧ Own (en enc) k 30 base w' (.slice (some ⟨g, 0, none⟩) N cap) (srt ltN X) ∧ Same (fun b => b = g) w w' := by
  have HSY : Hid (∀ (W : World) (A L R C : List Nb), Own (en enc) k 30 base W (.slice (some ⟨g, 0, none⟩) N cap) (A ++ L ++ R ++ C) → StS L → StS R → (∀ x ∈ L, ∀ y ∈ R, x.n < y.n) → Dis (L ++ R) → 0 < L.length → 0 < R.length → _) := fun W A L R C => sym_p AS (base := base) (g := g) (cap := cap) hN (L.length + R.length + 1) W A L R C (by omega)
  obtain ⟨mixed, E, fW, fR, fM, fT, eW, eR, eM, eI, eC, cmp, t0, t3, t4, t28, t77, a0, a3, a4, a28, a30, z0, z3, z4, z28, z30⟩ := AS
  have u28 := run_underlying t28
  have HIN : Hid _ := HI
  have hNl : N = X.length := h.lt.2
  have HNL : Hid (N = X.length ∧ N ≤ 1172812402961) := ⟨hNl, hN⟩
  have HPX : Hid (X.Pairwise fun x y => x.n < y.n) := hX
  have HO : Hid (Own (en enc) k 30 base w (.slice (some ⟨g, 0, none⟩) N cap) X) := h
  have hNI : (N : Int) ≤ 1172812402961 := by omega
  clear cmp fW fR fM eW eR E hNl h hX HI
  go_enter fT, Try.ntmps40
  go_wp2_with fail
  go_loopw [7, 8] (fun u v wr => ∃ (a b : Nat) (T Y : List Nb), u = .int .i64 (a : Int) ∧ v = .int .i64 (b : Int) ∧ b = a + 20 ∧ T.length = a ∧ a + Y.length = N ∧ Y.Pairwise (fun x y => x.n < y.n) ∧ (∀ U, Blk 20 Y U → Blk 20 X (T ++ U)) ∧ Own (en enc) k 30 base wr (.slice (some ⟨g, 0, none⟩) N cap) (T ++ Y) ∧ Same (fun b => b = g) w wr) (fun u _ _ => N - (intOf u).toNat)
  case atStart => exact ⟨0, 20, [], X, rfl, rfl, rfl, rfl, by have := HNL.out; omega, HPX.out, fun U h => h, HO.out, Same.refl _ _⟩
  case round =>
    obtain ⟨a, b, T, Y, rfl, rfl, hb, hT, hl, hp, hU, o, s⟩ := hrel
    rename World => WL
    by_cases hbn : b ≤ N
    · have d1 : (b : Int) ≤ (N : Int) := by omega
      have d1b : decide ((b : Int) ≤ (N : Int)) = true := decide_eq_true d1
      obtain ⟨b2, eb2⟩ : ∃ q, q = b + 20 := ⟨_, rfl⟩
      have hb2 : (b : Int) + 20 = (b2 : Int) := by omega
      have hYs : Y.take 20 ++ Y.drop 20 = Y := List.take_append_drop 20 Y
      have hY1 : (Y.take 20).length = 20 := by rw [List.length_take]; omega
      have hY2 : (Y.drop 20).length = Y.length - 20 := List.length_drop
      obtain ⟨B, eB⟩ : ∃ q, q = Y.take 20 := ⟨_, rfl⟩
      obtain ⟨Z, eZ⟩ : ∃ q, q = Y.drop 20 := ⟨_, rfl⟩
      rw [← eB, ← eZ] at hYs
      rw [← eB] at hY1
      rw [← eZ] at hY2
      rw [← hYs] at hp hU o
      obtain ⟨pB, pZ, -⟩ := List.pairwise_append.1 hp
      have HX : Hid _ := HIN.out WL T B Z (by rw [List.append_assoc]; exact o) pB
      rw [hT, show a + B.length = b by omega] at HX
      have HR : Hid (b2 = b + 20 ∧ (T ++ srt ltN B).length = b ∧ b + Z.length = N ∧ Z.Pairwise (fun x y => x.n < y.n) ∧ (∀ U, Blk 20 Z U → Blk 20 X ((T ++ srt ltN B) ++ U)) ∧ Same (fun b => b = g) w WL) := ⟨eb2, by rw [List.length_append, srt_len]; omega, by omega, pZ, fun U h => by rw [List.append_assoc]; exact hU _ (Blk.cons hY1 h), s⟩
      have HM : Hid (a < b ∧ b ≤ N) := ⟨by omega, hbn⟩
      have hbI : (b : Int) ≤ 1172812402961 := by omega
      clear hb hT hl hp hU o s hbn eb2 hYs hY1 hY2 eB eZ pB pZ
      go_wp2_with fail
      refine Calls.mono HX.out ?_
      rintro rr W1 ⟨rfl, o1, s1⟩
      have HO1 : Hid _ := And.intro o1 s1
      clear o1 s1 HX
      go_wp2_with fail
      go_roundw
      case rel => exact ⟨b, b2, T ++ srt ltN B, Z, rfl, rfl, HR.out.1, HR.out.2.1, HR.out.2.2.1, HR.out.2.2.2.1, HR.out.2.2.2.2.1, HO1.out.1, HR.out.2.2.2.2.2.trans' HO1.out.2⟩
      case measure => have := HM.out; simp only [intOf]; omega
    · have d1 : ¬ (b : Int) ≤ (N : Int) := by omega
      have d1b : decide ((b : Int) ≤ (N : Int)) = false := decide_eq_false d1
      have HX : Hid _ := HIN.out WL T Y [] (by rw [List.append_nil]; exact o) hp
      rw [hT, hl] at HX
      have HB : Hid (Blk 20 X (T ++ srt ltN Y) ∧ Same (fun b => b = g) w WL) := ⟨hU _ (Blk.last (by omega)), s⟩
      clear hb hT hl hp hU o s hbn
      go_wp2_with fail
      refine Calls.mono HX.out ?_
      rintro rr W1 ⟨rfl, o1, s1⟩
      have HO1 : Hid (∃ G, Own (en enc) k 30 base W1 (.slice (some ⟨g, 0, none⟩) N cap) G ∧ Blk 20 X G ∧ Same (fun b => b = g) w W1) := ⟨T ++ srt ltN Y, by simpa only [List.append_nil] using o1, HB.out.1, HB.out.2.trans' s1⟩
      clear o1 s1 HX HB d1 d1b
      go_wp2_with fail
      go_loopw [6] (fun u wr => ∃ s : Nat, u = .int .i64 (s : Int) ∧ 0 < s ∧ ∃ G, Own (en enc) k 30 base wr (.slice (some ⟨g, 0, none⟩) N cap) G ∧ Blk s X G ∧ Same (fun b => b = g) w wr) (fun u _ => N - (intOf u).toNat)
      case atStart => exact ⟨20, rfl, by decide, HO1.out⟩
      case round =>
        clear HO1
        obtain ⟨s, rfl, s0, G, o, hB, sm⟩ := hrel
        rename World => W2
        by_cases hsn : s < N
        · have d1 : (s : Int) < (N : Int) := by omega
          have d1b : decide ((s : Int) < (N : Int)) = true := decide_eq_true d1
          obtain ⟨s2, es2⟩ : ∃ q, q = 2 * s := ⟨_, rfl⟩
          have h2s : 2 * (s : Int) = (s2 : Int) := by omega
          have hs2 : (s : Int) * 2 = (s2 : Int) := by omega
          have HS2 : Hid (s2 = 2 * s ∧ 0 < s ∧ s < N) := ⟨es2, s0, hsn⟩
          have HST : Hid (Own (en enc) k 30 base W2 (.slice (some ⟨g, 0, none⟩) N cap) G ∧ Blk s X G ∧ Same (fun b => b = g) w W2) := ⟨o, hB, sm⟩
          have hsI : (s : Int) ≤ 1172812402961 := by omega
          have hsI2 : (s2 : Int) ≤ 2345624805922 := by omega
          clear o hB sm hsn es2
          go_wp2_with fail
          go_loopw [7, 8] (fun u v wr => ∃ (a b : Nat) (T Y U : List Nb), u = .int .i64 (a : Int) ∧ v = .int .i64 (b : Int) ∧ b = a + s2 ∧ T.length = a ∧ a + Y.length = N ∧ Y.Pairwise (fun x y => x.n < y.n) ∧ Blk s Y U ∧ (∀ U, Blk s2 Y U → Blk s2 X (T ++ U)) ∧ Own (en enc) k 30 base wr (.slice (some ⟨g, 0, none⟩) N cap) (T ++ U) ∧ Same (fun b => b = g) w wr) (fun u _ _ => N - (intOf u).toNat)
          case atStart => exact ⟨0, s2, [], X, G, rfl, rfl, by omega, rfl, by have := HNL.out; omega, HPX.out, HST.out.2.1, fun U h => h, HST.out.1, HST.out.2.2⟩
          case round =>
            clear HST
            obtain ⟨a, b, T, Y, U, rfl, rfl, hb, hT, hl, hp, hY, hU, o, sm⟩ := hrel
            rename World => W3
            have hh := HS2.out
            by_cases hbn : b ≤ N
            · have e1 : (b : Int) ≤ (N : Int) := by omega
              have e1b : decide ((b : Int) ≤ (N : Int)) = true := decide_eq_true e1
              obtain ⟨b2, eb2⟩ : ∃ q, q = b + s2 := ⟨_, rfl⟩
              have hb2 : (b : Int) + (s2 : Int) = (b2 : Int) := by omega
              obtain ⟨m, em⟩ : ∃ q, q = a + s := ⟨_, rfl⟩
              have hm : (a : Int) + (s : Int) = (m : Int) := by omega
              obtain ⟨B1, Y1, U1, rfl, rfl, l1, k1⟩ := hY.cut (by omega)
              rw [List.length_append] at hl
              obtain ⟨B2, Y2, U2, rfl, rfl, l2, k2⟩ := k1.cut (by omega)
              rw [List.length_append] at hl
              rw [← List.append_assoc] at hp hU
              obtain ⟨pB, pZ, -⟩ := List.pairwise_append.1 hp
              obtain ⟨c1, c2, c3, c4, c5⟩ := sym_two pB
              have HX : Hid _ := HSY.out W3 T (srt ltN B1) (srt ltN B2) U2 (by simpa only [List.append_assoc] using o) c1 c2 c3 c4 (by rw [srt_len]; omega) (by rw [srt_len]; omega)
              rw [c5, srt_len, srt_len, hT, show a + B1.length = m by omega, show m + B2.length = b by omega] at HX
              have HR : Hid (b2 = b + s2 ∧ (T ++ srt ltN (B1 ++ B2)).length = b ∧ b + Y2.length = N ∧ Y2.Pairwise (fun x y => x.n < y.n) ∧ Blk s Y2 U2 ∧ (∀ U, Blk s2 Y2 U → Blk s2 X ((T ++ srt ltN (B1 ++ B2)) ++ U)) ∧ Same (fun b => b = g) w W3) := ⟨eb2, by rw [List.length_append, srt_len, List.length_append]; omega, by omega, pZ, k2, fun U h => by rw [List.append_assoc]; exact hU _ (Blk.cons (by rw [List.length_append]; omega) h), sm⟩
              have HM : Hid (a < b ∧ b ≤ N) := ⟨by omega, hbn⟩
              have hbI : (b : Int) ≤ 1172812402961 := by omega
              have hmI : (m : Int) ≤ 1172812402961 := by omega
              have haI : (a : Int) ≤ 1172812402961 := by omega
              clear hb hT hl hp hY hU o sm hbn eb2 em l1 l2 k1 k2 pB pZ c1 c2 c3 c4 c5 hh
              go_wp2_with fail
              refine Calls.mono HX.out ?_
              rintro rr W4 ⟨rfl, o1, s1⟩
              have HO1 : Hid _ := And.intro o1 s1
              clear o1 s1 HX
              go_wp2_with fail
              go_roundw
              case rel => exact ⟨b, b2, T ++ srt ltN (B1 ++ B2), Y2, U2, rfl, rfl, HR.out.1, HR.out.2.1, HR.out.2.2.1, HR.out.2.2.2.1, HR.out.2.2.2.2.1, HR.out.2.2.2.2.2.1, HO1.out.1, HR.out.2.2.2.2.2.2.trans' HO1.out.2⟩
              case measure => have := HM.out; simp only [intOf]; omega
            · have e1 : ¬ (b : Int) ≤ (N : Int) := by omega
              have e1b : decide ((b : Int) ≤ (N : Int)) = false := decide_eq_false e1
              obtain ⟨m, em⟩ : ∃ q, q = a + s := ⟨_, rfl⟩
              have hm : (a : Int) + (s : Int) = (m : Int) := by omega
              have hmI : (m : Int) ≤ 2345624805922 := by omega
              have haI : (a : Int) ≤ 1172812402961 := by omega
              have HM : Hid (s < s2 ∧ 0 < s2 ∧ s < N) := ⟨by omega, by omega, by omega⟩
              by_cases hmn : m < N
              · have f1 : (m : Int) < (N : Int) := by omega
                have f1b : decide ((m : Int) < (N : Int)) = true := decide_eq_true f1
                obtain ⟨B1, Y1, U1, rfl, rfl, l1, k1⟩ := hY.cut (by omega)
                rw [List.length_append] at hl
                have eU := k1.end (by omega)
                subst eU
                obtain ⟨c1, c2, c3, c4, c5⟩ := sym_two hp
                have HX : Hid _ := HSY.out W3 T (srt ltN B1) (srt ltN Y1) [] (by simpa only [List.append_assoc, List.append_nil] using o) c1 c2 c3 c4 (by rw [srt_len]; omega) (by rw [srt_len]; omega)
                rw [c5, srt_len, srt_len, hT, show a + B1.length = m by omega, show m + Y1.length = N by omega] at HX
                have HR : Hid (Blk s2 X (T ++ srt ltN (B1 ++ Y1)) ∧ Same (fun b => b = g) w W3) := ⟨hU _ (Blk.last (by rw [List.length_append]; omega)), sm⟩
                clear hb hT hl hp hY hU o sm hbn em l1 k1 c1 c2 c3 c4 c5 hh hmn
                go_wp2_with fail
                refine Calls.mono HX.out ?_
                rintro rr W4 ⟨rfl, o1, s1⟩
                have HO1 : Hid _ := And.intro o1 s1
                clear o1 s1 HX
                go_wp2_with fail
                go_roundw
                case rel => exact ⟨s2, rfl, HM.out.2.1, _, by simpa only [List.append_nil] using HO1.out.1, HR.out.1, HR.out.2.trans' HO1.out.2⟩
                case measure => have := HM.out; simp only [intOf]; omega
              · have f1 : ¬ (m : Int) < (N : Int) := by omega
                have f1b : decide ((m : Int) < (N : Int)) = false := decide_eq_false f1
                have eU := hY.end (by omega)
                subst eU
                have HR : Hid (Own (en enc) k 30 base W3 (.slice (some ⟨g, 0, none⟩) N cap) (T ++ srt ltN Y) ∧ Blk s2 X (T ++ srt ltN Y) ∧ Same (fun b => b = g) w W3) := ⟨o, hU _ (Blk.last (by omega)), sm⟩
                clear hb hT hl hp hY hU o sm hbn em hh hmn
                go_wp2_with fail
                go_roundw
                case rel => exact ⟨s2, rfl, HM.out.2.1, _, HR.out⟩
                case measure => have := HM.out; simp only [intOf]; omega
        · have d1 : ¬ (s : Int) < (N : Int) := by omega
          have d1b : decide ((s : Int) < (N : Int)) = false := decide_eq_false d1
          have eG := hB.end (by have := HNL.out; omega)
          subst eG
          have HF : Hid (Own (en enc) k 30 base W2 (.slice (some ⟨g, 0, none⟩) N cap) (srt ltN X) ∧ Same (fun b => b = g) w W2) := ⟨o, sm⟩
          clear o hB sm hsn
          go_wp2_with fail
          all_goals (go_end0; exact ⟨rfl, HF.out⟩)
end Go.Proofs.Ytnfkjblhnpnaeaa
