/- What is proved: the document's Check is the plain check; the faults lie in memory. -/
import Derived.Test.YtagkgenhgllglaaDRvH
namespace Go.Proofs.Ytagkgenhgllglaa
open Go.RowKit

theorem okG_false {B S : Int} (h : ¬ (16 ≤ B ∧ B ≤ 1024 ∧ 0 ≤ S ∧ S ≤ 4096)) : okG B S = false := by
  unfold okG
  by_cases h1 : 16 ≤ B ∧ B ≤ 1024
  · rw [decide_eq_false (show ¬ (0 ≤ S ∧ S ≤ 4096) from fun h2 => h ⟨h1.1, h1.2, h2.1, h2.2⟩), Bool.and_false]
  · rw [decide_eq_false h1, Bool.false_and]
theorem okG_true {B S : Int} (h : 16 ≤ B ∧ B ≤ 1024 ∧ 0 ≤ S ∧ S ≤ 4096) : okG B S = true := by
  unfold okG
  rw [decide_eq_true ⟨h.1, h.2.1⟩, decide_eq_true ⟨h.2.2.1, h.2.2.2⟩]
  rfl
theorem okF_iff (B : Int) (f : Fl) : okF B f = true ↔ ((1 ≤ f.k ∧ f.k ≤ 4) ∧ (0 ≤ f.b ∧ f.b ≤ 4194304) ∧ (1 ≤ f.n ∧ f.n ≤ 1099511627776) ∧ (0 ≤ f.p ∧ f.p ≤ B)) := by
  unfold okF
  simp only [Bool.and_eq_true, decide_eq_true_eq, and_assoc]
theorem all_bad {F : List Fl} {P : Fl → Bool} {j : Nat} {f : Fl} (hf : F[j]? = some f) (h : ¬ P f = true) : F.all P = false := by
  rw [Bool.eq_false_iff]
  intro ha
  exact h (List.all_eq_true.1 ha f (List.mem_of_getElem? hf))
theorem all_good {F : List Fl} {P : Fl → Bool} {j : Nat} {f : Fl} (hf : F[j]? = some f) (h : P f = true) (ha : (F.take j).all P = true) : (F.take (j + 1)).all P = true := by
  rw [List.take_add_one, hf, List.all_append, ha]
  simp [h]

set_option maxRecDepth 100000 in
set_option maxHeartbeats 800000 in
theorem rcheck_any (B S : Int) (ni ns : Nat) (fa : Option Addr) (fc : Nat) (F : List Fl) (w : World) (hF : FaultsAt w fa F) (hlen : F.length ≤ 9223372036854775807) :
    Calls Try.prog 19 #[.int .i64 B, .int .i64 S, .int .i64 ni, .int .i64 ns, .slice fa F.length fc] w fun e w' => e = .returned (.int .i64 (chk B S ni ns F)) ∧ Kept w w' := by
  obtain ⟨X, eX⟩ : ∃ X, X = chk B S ni ns F := ⟨_, rfl⟩
  rw [← eX]
  unfold chk at eX
  have EX : Hid _ := eX
  have HF : Hid _ := hF
  obtain ⟨nF, eF⟩ : ∃ nF, nF = F.length := ⟨_, rfl⟩
  rw [← eF] at hlen ⊢
  have EF : Hid _ := eF
  clear eX hF eF
  by_cases g0 : B < 16
  · have g0' : decide (B < 16) = true := decide_eq_true g0
    have EX2 : Hid (X = 30) := by have := EX.out; rw [if_pos (okG_false (by omega))] at this; exact this
    clear HF EF EX hlen
    go_enter Try.func19, Try.ntmps19
    go_wp2_with fail
    go_ret
    rw [EX2.out]
    exact ⟨rfl, Same.refl _ _⟩
  have g0' : decide (B < 16) = false := decide_eq_false g0
  by_cases g1 : 1024 < B
  · have g1' : decide (1024 < B) = true := decide_eq_true g1
    have EX2 : Hid (X = 30) := by have := EX.out; rw [if_pos (okG_false (by omega))] at this; exact this
    clear HF EF EX hlen
    go_enter Try.func19, Try.ntmps19
    go_wp2_with fail
    go_ret
    rw [EX2.out]
    exact ⟨rfl, Same.refl _ _⟩
  have g1' : decide (1024 < B) = false := decide_eq_false g1
  by_cases g2 : S < 0
  · have g2' : decide (S < 0) = true := decide_eq_true g2
    have EX2 : Hid (X = 30) := by have := EX.out; rw [if_pos (okG_false (by omega))] at this; exact this
    clear HF EF EX hlen
    go_enter Try.func19, Try.ntmps19
    go_wp2_with fail
    go_ret
    rw [EX2.out]
    exact ⟨rfl, Same.refl _ _⟩
  have g2' : decide (S < 0) = false := decide_eq_false g2
  by_cases g3 : 4096 < S
  · have g3' : decide (4096 < S) = true := decide_eq_true g3
    have EX2 : Hid (X = 30) := by have := EX.out; rw [if_pos (okG_false (by omega))] at this; exact this
    clear HF EF EX hlen
    go_enter Try.func19, Try.ntmps19
    go_wp2_with fail
    go_ret
    rw [EX2.out]
    exact ⟨rfl, Same.refl _ _⟩
  have g3' : decide (4096 < S) = false := decide_eq_false g3
  have HG : Hid (okG B S = true) := okG_true (by omega)
  obtain ⟨b, rfl⟩ := Int.eq_ofNat_of_zero_le (show 0 ≤ B by omega)
  obtain ⟨s, rfl⟩ := Int.eq_ofNat_of_zero_le (show 0 ≤ S by omega)
  obtain ⟨bs, ebs⟩ : ∃ bs, bs = b * s := ⟨_, rfl⟩
  have hbs : (b : Int) * (s : Int) = (bs : Int) := by rw [ebs]; simp
  have hbs2 : bs ≤ 4194304 := by rw [ebs]; exact Nat.le_trans (Nat.mul_le_mul (show b ≤ 1024 by omega) (show s ≤ 4096 by omega)) (by decide)
  have HBS : Hid _ := hbs
  clear ebs
  have e1 : X = if 4194304 < ni then 31 else if (b : Int) * (s : Int) < ns then 32 else if (decide (F.length ≤ 64) && F.all (okF b)) = false then 33 else 0 := by
    have := EX.out
    rw [if_neg (by rw [HG.out]; simp)] at this
    exact this
  have E1 : Hid _ := e1
  clear e1
  by_cases h1 : 4194304 < ni
  · have h1' : decide (4194304 < (ni : Int)) = true := decide_eq_true (by omega)
    have h1n : (4194304 : Int) < (ni : Int) := by omega
    have EX2 : Hid (X = 31) := by have := E1.out; rw [if_pos h1] at this; exact this
    clear HF EF EX hlen E1 hbs
    go_enter Try.func19, Try.ntmps19
    go_wp2_with fail
    go_ret
    rw [EX2.out]
    exact ⟨rfl, Same.refl _ _⟩
  have h1' : decide (4194304 < (ni : Int)) = false := decide_eq_false (by omega)
  have h1n : ¬ ((4194304 : Int) < (ni : Int)) := by omega
  by_cases h2 : bs < ns
  · have h2' : decide ((bs : Int) < (ns : Int)) = true := decide_eq_true (by omega)
    have h2n : (bs : Int) < (ns : Int) := by omega
    have EX2 : Hid (X = 32) := by have := E1.out; rw [if_neg h1, if_pos (by rw [HBS.out]; omega)] at this; exact this
    clear HF EF EX hlen E1
    go_enter Try.func19, Try.ntmps19
    go_wp2_with fail
    go_ret
    rw [EX2.out]
    exact ⟨rfl, Same.refl _ _⟩
  have h2' : decide ((bs : Int) < (ns : Int)) = false := decide_eq_false (by omega)
  have h2n : ¬ ((bs : Int) < (ns : Int)) := by omega
  have h2m : ¬ (bs < ns) := by omega
  have e2 : X = if (decide (F.length ≤ 64) && F.all (okF b)) = false then 33 else 0 := by
    have := E1.out
    rw [if_neg h1, if_neg (by rw [HBS.out]; omega)] at this
    exact this
  have E2 : Hid _ := e2
  clear e2 EX E1
  by_cases h3 : 64 < nF
  · have h3' : decide (64 < (nF : Int)) = true := decide_eq_true (by omega)
    have h3n : (64 : Int) < (nF : Int) := by omega
    have EX2 : Hid (X = 33) := by have := E2.out; rw [if_pos (by rw [← EF.out, decide_eq_false (by omega), Bool.false_and])] at this; exact this
    clear HF EF hlen E2
    go_enter Try.func19, Try.ntmps19
    go_wp2_with fail
    go_ret
    rw [EX2.out]
    exact ⟨rfl, Same.refl _ _⟩
  have h3' : decide (64 < (nF : Int)) = false := decide_eq_false (by omega)
  have h3n : ¬ ((64 : Int) < (nF : Int)) := by omega
  have e3 : X = if F.all (okF b) = false then 33 else 0 := by
    have := E2.out
    rw [← EF.out, decide_eq_true (by omega), Bool.true_and] at this
    exact this
  have E3 : Hid _ := e3
  clear e3 E2
  go_enter Try.func19, Try.ntmps19
  go_wp2_with fail
  go_loopw [11] (fun i wr => ∃ j : Nat, j ≤ nF ∧ i = .int .i64 j ∧ (F.take j).all (okF b) = true ∧ Kept w wr) (fun i _ => nF - (intOf i).toNat)
  case atStart => exact ⟨0, Nat.zero_le _, rfl, rfl, Same.refl _ _⟩
  case round =>
    obtain ⟨j, hj, rfl, hall, kk⟩ := hrel
    have KK : Hid _ := kk
    have HAL : Hid _ := hall
    by_cases hlt : j < nF
    · have a1 : decide ((j : Int) < (nF : Int)) = true := by simp only [decide_eq_true_eq]; omega
      have a2 : (j : Int) < (nF : Int) := by omega
      obtain ⟨f, hf⟩ : ∃ f, F[j]? = some f := ⟨_, List.getElem?_eq_getElem (by rw [← EF.out]; exact hlt)⟩
      obtain ⟨fb, off, rfl, hfb, q0, q1, q2, q3⟩ := (FaultsAt.kept HF.out kk (fun _ _ h => h)) j f hf
      have HBD : Hid (¬ okF b f = true → X = 33) := fun hb => by
        have := E3.out
        rw [if_pos (all_bad hf hb)] at this
        exact this
      have HGD : Hid (okF b f = true → (F.take (j + 1)).all (okF b) = true) := fun hb => all_good hf hb HAL.out
      clear kk hall hf
      by_cases c0 : f.k < 1
      · have c0' : decide (f.k < 1) = true := decide_eq_true c0
        have EX2 : Hid (X = 33) := HBD.out (by rw [okF_iff]; omega)
        clear HBD HGD
        go_wp2_with fail
        go_ret
        rw [EX2.out]
        exact ⟨rfl, KK.out.alloc _⟩
      have c0' : decide (f.k < 1) = false := decide_eq_false c0
      by_cases c1 : 4 < f.k
      · have c1' : decide (4 < f.k) = true := decide_eq_true c1
        have EX2 : Hid (X = 33) := HBD.out (by rw [okF_iff]; omega)
        clear HBD HGD
        go_wp2_with fail
        go_ret
        rw [EX2.out]
        exact ⟨rfl, KK.out.alloc _⟩
      have c1' : decide (4 < f.k) = false := decide_eq_false c1
      by_cases c2 : f.b < 0
      · have c2' : decide (f.b < 0) = true := decide_eq_true c2
        have EX2 : Hid (X = 33) := HBD.out (by rw [okF_iff]; omega)
        clear HBD HGD
        go_wp2_with fail
        go_ret
        rw [EX2.out]
        exact ⟨rfl, KK.out.alloc _⟩
      have c2' : decide (f.b < 0) = false := decide_eq_false c2
      by_cases c3 : 4194304 < f.b
      · have c3' : decide (4194304 < f.b) = true := decide_eq_true c3
        have EX2 : Hid (X = 33) := HBD.out (by rw [okF_iff]; omega)
        clear HBD HGD
        go_wp2_with fail
        go_ret
        rw [EX2.out]
        exact ⟨rfl, KK.out.alloc _⟩
      have c3' : decide (4194304 < f.b) = false := decide_eq_false c3
      by_cases c4 : f.n < 1
      · have c4' : decide (f.n < 1) = true := decide_eq_true c4
        have EX2 : Hid (X = 33) := HBD.out (by rw [okF_iff]; omega)
        clear HBD HGD
        go_wp2_with fail
        go_ret
        rw [EX2.out]
        exact ⟨rfl, KK.out.alloc _⟩
      have c4' : decide (f.n < 1) = false := decide_eq_false c4
      by_cases c5 : 1099511627776 < f.n
      · have c5' : decide (1099511627776 < f.n) = true := decide_eq_true c5
        have EX2 : Hid (X = 33) := HBD.out (by rw [okF_iff]; omega)
        clear HBD HGD
        go_wp2_with fail
        go_ret
        rw [EX2.out]
        exact ⟨rfl, KK.out.alloc _⟩
      have c5' : decide (1099511627776 < f.n) = false := decide_eq_false c5
      by_cases c6 : f.p < 0
      · have c6' : decide (f.p < 0) = true := decide_eq_true c6
        have EX2 : Hid (X = 33) := HBD.out (by rw [okF_iff]; omega)
        clear HBD HGD
        go_wp2_with fail
        go_ret
        rw [EX2.out]
        exact ⟨rfl, KK.out.alloc _⟩
      have c6' : decide (f.p < 0) = false := decide_eq_false c6
      by_cases c7 : (b : Int) < f.p
      · have c7' : decide ((b : Int) < f.p) = true := decide_eq_true c7
        have EX2 : Hid (X = 33) := HBD.out (by rw [okF_iff]; omega)
        clear HBD HGD
        go_wp2_with fail
        go_ret
        rw [EX2.out]
        exact ⟨rfl, KK.out.alloc _⟩
      have c7' : decide ((b : Int) < f.p) = false := decide_eq_false c7
      have HN : Hid _ := HGD.out (by rw [okF_iff]; omega)
      clear HBD HGD
      go_wp2_with fail
      go_roundw
      case rel => exact ⟨j + 1, by omega, by simp, HN.out, KK.out.alloc _⟩
      case measure => simp only [intOf]; omega
    · have a1 : decide ((j : Int) < (nF : Int)) = false := by simp only [decide_eq_false_iff_not]; omega
      obtain rfl : j = nF := by omega
      have EX2 : Hid (X = 0) := by
        have := E3.out
        have h9 := HAL.out
        rw [EF.out, List.take_length] at h9
        rw [if_neg (by rw [h9]; simp)] at this
        exact this
      clear kk hall
      go_wp2_with fail
      go_ret
      rw [EX2.out]
      exact ⟨rfl, KK.out⟩
end Go.Proofs.Ytagkgenhgllglaa
