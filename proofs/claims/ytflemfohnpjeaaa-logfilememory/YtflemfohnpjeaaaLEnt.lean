/- What is proved: a scanner's readTotal and readBody: what they answer and leave; the bounds that a machine's memory sets. -/
import Derived.Test.YtflemfohnpjeaaaLAt
namespace Go.Proofs.Ytflemfohnpjeaaa
open Go.RowKit

section
variable {base : Nat} {w w' : World} {sb : Nat} {v : Value} {d : List Int} {en : Bool} {s : Sc}
theorem NumR.kinds {part : Int} {r : List Int} {rd ct : Nat} {er : Int} {n most m z : Nat} {e : Int} {x : Ending} (h : NumR base w sb v part r rd ct en er n most x w') (hq : num 8 (r.drop n) = (m, z, e)) :
    (e = 0 ∧ m ≤ most ∧ x = .returned (.tuple #[.int .i64 (m : Int), .int .i64 (z : Int), .bool true]) ∧ Sn base w' sb v part r rd ct en er ∧ Kept w w') ∨
    (x = .returned (.tuple #[.int .i64 0, .int .i64 0, .bool false]) ∧ ((e = 51 ∧ Lk base w sb v part r rd ct en er n w') ∨ (e ≠ 51 ∧ (e = 0 → most < m) ∧ Sn base w' sb (.slice none 0 0) 3 [] (rd + n) ct en (if e = 0 then 53 else e) ∧ Same (fun k => k = sb) w w'))) := by
  unfold NumR at h
  rw [hq] at h
  simp only at h
  by_cases c : e = 0 ∧ m ≤ most
  · rw [if_pos c] at h
    exact .inl ⟨c.1, c.2, h⟩
  · rw [if_neg c] at h
    refine .inr ⟨h.1, ?_⟩
    by_cases c2 : e = 51
    · rw [if_pos c2] at h
      exact .inl ⟨c2, h.2⟩
    · rw [if_neg c2] at h
      exact .inr ⟨c2, fun c3 => Nat.not_le.1 fun c4 => c ⟨c3, c4⟩, h.2⟩
/-- A number that isn't answered: what the scanner is left at. -/
theorem num_left {n m : Nat} {e : Int} {most : Nat} (h : At base w sb v d en s) (h0 : s.er = 0) (hp : s.pl + n ≤ d.length) (hk : (e = 51 ∧ Lk base w sb v (partOf s) (restOf d s) s.pl s.ct en s.er n w') ∨ (e ≠ 51 ∧ (e = 0 → most < m) ∧ Sn base w' sb (.slice none 0 0) 3 [] (s.pl + n) s.ct en (if e = 0 then 53 else e) ∧ Same (fun k => k = sb) w w')) :
    Left base w sb v d en (if e ≠ 0 then s.stop en (s.pl + n) e else { s with pl := s.pl + n, er := 53 }) w' ∧ (e = 0 → most < m) := by
  rcases hk with ⟨rfl, hl⟩ | ⟨h1, h2, h3, h4⟩
  · rw [h0] at hl
    exact ⟨by rw [if_pos (by decide)]; exact Left.lack h h0 hp hl, fun c => absurd c (by decide)⟩
  · refine ⟨?_, h2⟩
    by_cases c : e = 0
    · subst c
      rw [if_neg (by simp)]
      exact Left.fail (e := 53) h.len h.byts hp (by decide) rfl rfl rfl rfl h3 h4
    · rw [if_pos c, stop_ne _ _ _ h1]
      rw [if_neg c] at h3
      exact Left.fail (e := e) h.len h.byts hp c rfl rfl rfl rfl h3 h4
/-- n bytes were passed. -/
theorem Left.pass {n ct : Nat} {p : Int} {s' : Sc} {w1 : World} {v' : Value} (h : At base w sb v d en s) (h0 : s.er = 0) (hn : s.pl + n ≤ d.length) (h1 : s'.pl = s.pl + n) (h2 : s'.ct = ct) (h3 : s'.er = 0) (h4 : partOf s' = p) (h5 : s'.pl ≠ 0) (k1 : Kept w w1) (hs : Sn base w' sb v' p ((restOf d s).drop n) (s.pl + n) ct en s.er) (hv : v'.ownBlock = v.ownBlock) (hk : Same (fun k => k = sb) w1 w') : Left base w sb v d en s' w' := by
  refine ⟨⟨v', ⟨?_, by omega, h.len, h.byts, fun _ _ => h5⟩, fun k e => (hv ▸ e)⟩, (Kept.to k1 _).trans' hk⟩
  rw [h4, rest_0 h3, h1, h2, h3]
  rw [rest_0 h0, List.drop_drop, h0] at hs
  exact hs
set_option maxRecDepth 100000 in
set_option maxHeartbeats 800000 in
theorem stotal_any (h : At base w sb v d en s) (h0 : s.er = 0) (hf : s.ft = false) (hp : s.pl + 1 ≤ d.length) : Calls Try.prog 36 #[.pointer (some ⟨sb, 0, none⟩), .int .i64 1] w fun x w' => x = .returned (.tuple #[]) ∧ Left base w sb v d en (foot0 d en s) w' := by
  have hr : restOf d s = d.drop s.pl := rest_0 h0
  have hrl : (restOf d s).length = d.length - s.pl := by rw [hr, List.length_drop]
  obtain ⟨-, -, -, c3, -, -⟩ := h.sn.cells
  have hlt := h.sn.lt
  have HN : Hid (Calls Try.prog 35 #[.pointer (some ⟨sb, 0, none⟩), .int .i64 1, .int .i64 4096] w fun x w' => NumR base w sb v (partOf s) (restOf d s) s.pl s.ct en s.er 1 4096 x w') := snum_any h.sn 1 4096 (by omega)
  obtain ⟨m, z, e, hq⟩ : ∃ m z e, num 8 (d.drop (s.pl + 1)) = (m, z, e) := ⟨_, _, _, rfl⟩
  have hq1 : num 8 ((restOf d s).drop 1) = (m, z, e) := by rw [hr, List.drop_drop]; exact hq
  have HQ1 : Hid _ := hq1
  have hone := num_one (k := 8) (l := d.drop (s.pl + 1)) (Nat.le_refl _) (h.byts.drop _)
  rw [hq, List.length_drop] at hone
  have HO : Hid _ := hone
  have hf0 : foot0 d en s = if e ≠ 0 then s.stop en (s.pl + 1) e else if 4096 < m then { s with pl := s.pl + 1, er := 53 } else if m ≠ s.ct then { s with pl := s.pl + 1, er := 72 } else { s with pl := s.pl + 1 + z, ft := true } := by
    unfold foot0
    rw [hq]
  have HE0 : Hid _ := hf0
  have HF0 : Hid _ := hf
  have H0 : Hid _ := h0
  have H : Hid _ := h
  have HP : Hid _ := hp
  have HCT : Hid _ := h.sn.cts
  have hct : (s.ct : Int) ≤ 4096 := by have := h.sn.cts; omega
  have hlen := h.len
  clear hr hrl hq hq1 hone hf0 hf h0 h
  go_enter Try.func36, Try.ntmps36
  go_wp2_with fail
  refine Calls.mono HN.out ?_
  intro x w1 hN
  rcases NumR.kinds hN HQ1.out with ⟨rfl, hm, rfl, s1, k1⟩ | ⟨rfl, hk⟩
  · obtain ⟨-, o1, o2, -⟩ := HO.out rfl
    have c3' : w1.cell? ⟨sb, 3, none⟩ = some (.int .i64 (s.ct : Int)) := s1.cells.2.2.2.1
    have hltw := s1.lt
    have K1 : Hid _ := k1
    have S1 : Hid _ := s1
    by_cases hmc : m = s.ct
    · have hmc' : ((m : Int) != (s.ct : Int)) = false := by rw [hmc]; simp
      obtain ⟨Z, eZ⟩ : ∃ Z, Z = 1 + z := ⟨_, rfl⟩
      have hZ : (1 : Int) + (z : Int) = (Z : Int) := by omega
      have hzl : (z : Int) ≤ 211106232532992 := by omega
      have HPS : Hid _ := spass_any s1 Z (by rw [rest_0 H0.out, List.length_drop]; omega) 2
      have EZ : Hid _ := eZ
      have HMC : Hid _ := hmc
      have HM : Hid _ := hm
      have OO : Hid _ := o1
      clear hN s1 k1 hmc eZ hm o1 o2
      go_wp2_with fail
      refine Calls.mono HPS.out ?_
      rintro x w2 ⟨rfl, ⟨v2, s2, b2⟩, k2⟩
      have S2 : Hid _ := s2
      have B2 : Hid _ := b2
      have K2 : Hid _ := k2
      clear s2 b2 k2
      go_wp2_with fail
      go_end0
      refine ⟨rfl, ?_⟩
      rw [HE0.out, if_neg (by decide), if_neg (Nat.not_lt.2 HM.out), if_neg (by simpa using HMC.out)]
      have hZ2 := EZ.out
      have hO2 := OO.out
      have hP2 := HP.out
      exact Left.pass (n := Z) (p := 2) H.out H0.out (by omega) (by rw [EZ.out, Nat.add_assoc]) rfl H0.out (part_ft H0.out rfl) (by show s.pl + 1 + z ≠ 0; omega) K1.out S2.out B2.out K2.out
    · have hmc' : ((m : Int) != (s.ct : Int)) = true := by simpa using fun c => hmc (by omega)
      have HFL : Hid (Calls Try.prog 23 #[.pointer (some ⟨sb, 0, none⟩), .int .i64 1, .int .i64 72] w1 _) := sfail_any s1 1 (by omega) 72
      have HMC : Hid _ := hmc
      have HM : Hid _ := hm
      clear hN s1 k1 hmc hm o1 o2
      go_wp2_with fail
      refine Calls.mono HFL.out ?_
      rintro x w2 ⟨rfl, s2, k2⟩
      have S2 : Hid _ := s2
      have K2 : Hid _ := k2
      clear s2 k2
      go_wp2_with fail
      go_end0
      refine ⟨rfl, ?_⟩
      rw [HE0.out, if_neg (by decide), if_neg (Nat.not_lt.2 HM.out), if_pos HMC.out]
      exact Left.fail (e := 72) H.out.len H.out.byts HP.out (by decide) rfl rfl rfl rfl S2.out ((Kept.to K1.out _).trans' K2.out)
  · obtain ⟨l1, l2⟩ := num_left H.out H0.out HP.out hk
    have L1 : Hid _ := l1
    have L2 : Hid _ := l2
    clear hN hk l1 l2
    go_wp2_with fail
    go_end0
    refine ⟨rfl, ?_⟩
    rw [HE0.out]
    by_cases c : e = 0
    · have l1 := L1.out
      rw [if_neg (by simpa using c)] at l1
      rw [if_neg (by simpa using c), if_pos (L2.out c)]
      exact l1
    · have l1 := L1.out
      rw [if_pos c] at l1 ⊢
      exact l1
end
end Go.Proofs.Ytflemfohnpjeaaa
