/- What is proved: Cancel and Beat of the document's own tree, told by the same functions as the program's own; the tree is closed and its beats are within bounds. -/
import Derived.Test.YtkkkndbfokjikabRefStop
namespace Go.Proofs.Ytkkkndbfokjikab
open Go.Conc Go.RowKit

set_option maxRecDepth 100000 in
set_option maxHeartbeats 800000 in
theorem rcancel_dead {w : World} {rb g cap n : Nat} {par : Nat → Option Nat} {left cause : Nat → Int} (h : RefH w rb g cap n par left cause) (i : Nat) (hi : i < n) (hd : cause i ≠ 0) :
    Calls Try.prog 18 #[.pointer (some ⟨rb, 0, none⟩), .int .i64 i] w fun e w' => e = .returned (.bool false) ∧ w' = w := by
  obtain ⟨c0, f0⟩ := h.rcell
  obtain ⟨-, -, c2, -, -⟩ := h.cells hi
  have hin : (i : Int) < (n : Int) := by omega
  have t : (cause i != 0) = true := by simpa using hd
  clear h hd
  go_enter Try.func18, Try.ntmps18
  go_wp2
  go_ret
  exact ⟨rfl, rfl⟩

set_option maxRecDepth 100000 in
set_option maxHeartbeats 800000 in
theorem rcancel_live {w : World} {rb g cap n : Nat} {par : Nat → Option Nat} {left cause : Nat → Int} (h : RefH w rb g cap n par left cause) (hp : ∀ k p, k < n → par k = some p → p < k) (hs : ∀ k, 0 < k → k < n → ∃ p, par k = some p)
    (hcl : Closed par cause n) (hn : n ≤ 1000) (i : Nat) (hi : i < n) (hd : cause i = 0) :
    Calls Try.prog 18 #[.pointer (some ⟨rb, 0, none⟩), .int .i64 i] w fun e w' => e = .returned (.bool true) ∧ RefH w' rb g cap n par left (sw par (upd cause i 1) n) ∧ Same (fun k => k = rb ∨ k = g) w w' := by
  obtain ⟨c0, f0⟩ := h.rcell
  obtain ⟨-, -, c2, -, -⟩ := h.cells hi
  have hin : (i : Int) < (n : Int) := by omega
  have HS : Hid _ := rstop_any h hp hs hcl i hi 1 (by decide) hn
  rw [hd] at c2
  clear h hd hp hs hcl
  go_enter Try.func18, Try.ntmps18
  go_wp2_with (go_at_call 27; refine Calls.mono HS.out ?_; rintro e w1 ⟨rfl, h1, s1⟩)
  go_ret
  exact ⟨rfl, h1, s1⟩

set_option maxRecDepth 100000 in
set_option maxHeartbeats 800000 in
theorem rbeat_dead {w : World} {rb g cap n : Nat} {par : Nat → Option Nat} {left cause : Nat → Int} (h : RefH w rb g cap n par left cause) (i : Nat) (hi : i < n) (hd : cause i ≠ 0) :
    Calls Try.prog 19 #[.pointer (some ⟨rb, 0, none⟩), .int .i64 i] w fun e w' => e = .returned (.bool false) ∧ w' = w := by
  obtain ⟨c0, f0⟩ := h.rcell
  obtain ⟨-, -, c2, -, -⟩ := h.cells hi
  have hin : (i : Int) < (n : Int) := by omega
  have t : (cause i != 0) = true := by simpa using hd
  clear h hd
  go_enter Try.func19, Try.ntmps19
  go_wp2
  go_ret
  exact ⟨rfl, rfl⟩

set_option maxRecDepth 100000 in
set_option maxHeartbeats 1600000 in
theorem rbeat_live {w : World} {rb g cap n : Nat} {par : Nat → Option Nat} {left cause : Nat → Int} (h : RefH w rb g cap n par left cause) (hp : ∀ k p, k < n → par k = some p → p < k) (hs : ∀ k, 0 < k → k < n → ∃ p, par k = some p)
    (hcl : Closed par cause n) (hr : Rng left n) (hn : n ≤ 1000) (i : Nat) (hi : i < n) (hd : cause i = 0) :
    Calls Try.prog 19 #[.pointer (some ⟨rb, 0, none⟩), .int .i64 i] w fun e w' =>
      ((∃ a, spent par left i = some a ∧ e = .returned (.bool false) ∧ RefH w' rb g cap n par left (sw par (upd cause a 2) n)) ∨ (spent par left i = none ∧ e = .returned (.bool true) ∧ RefH w' rb g cap n par (dec par left i) cause)) ∧ Same (fun k => k = rb ∨ k = g) w w' := by
  obtain ⟨c0, f0⟩ := h.rcell
  obtain ⟨-, -, c2, -, -⟩ := h.cells hi
  have hin : (i : Int) < (n : Int) := by omega
  have hn' : (n : Int) ≤ 1000 := by omega
  have HS : Hid _ := fun a ha => rstop_any h hp hs hcl a ha 2 (by decide) hn
  have HH : Hid _ := h
  have HP : Hid _ := hp
  have HR : Hid _ := hr
  rw [hd] at c2
  clear h hd hp hs hcl hr
  go_enter Try.func19, Try.ntmps19
  go_wp2_with fail
  go_loop [5, 6] (fun s q => ∃ (acc cur : Option Nat) (f : Nat), s = .int .i64 (pz acc) ∧ q = .int .i64 (pz cur) ∧ (∀ x, cur = some x → x < f ∧ x < n) ∧ (∀ x, acc = some x → x < n) ∧ (upo par f cur).foldl (spentS left) acc = spent par left i) (fun _ q => (intOf q + 1).toNat)
  case atStart => exact ⟨none, some i, i + 1, rfl, rfl, fun x hx => by cases hx; exact ⟨by omega, hi⟩, fun x hx => (by cases hx), rfl⟩
  case round =>
    obtain ⟨acc, cur, f, rfl, rfl, hx, hy, hf⟩ := hrel
    cases cur with
    | none =>
      have hf' : acc = spent par left i := hf
      cases acc with
      | some a =>
        have han := hy a rfl
        have HF : Hid _ := hf'
        clear hf hf' hx hy
        simp only [pz]
        go_wp2_with fail
        refine (HS.out a han).mono ?_
        rintro e w1 ⟨rfl, h1, s1⟩
        go_wp2_with fail
        go_ret
        exact ⟨.inl ⟨a, HF.out.symm, rfl, h1⟩, s1⟩
      | none =>
        have HF : Hid _ := hf'
        clear hf hf' hx hy
        simp only [pz]
        go_wp2_with fail
        go_loopw [7] (fun q wx => ∃ (cur : Option Nat) (f : Nat) (L : Nat → Int), q = .int .i64 (pz cur) ∧ (∀ x, cur = some x → x < f ∧ x < n) ∧ (∀ x y, cur = some x → y ≤ x → L y = left y) ∧ RefH wx rb g cap n par L cause ∧ Same (fun k => k = rb ∨ k = g) w wx ∧ (upo par f cur).foldl decS L = dec par left i) (fun q _ => (intOf q + 1).toNat)
        case atStart => exact ⟨some i, i + 1, left, rfl, fun x hx => by cases hx; exact ⟨by omega, hi⟩, fun _ _ _ _ => rfl, HH.out, Same.refl _ _, rfl⟩
        case round =>
          obtain ⟨cur, f, L, rfl, hx, hy, hh, ss, hf⟩ := hrel
          cases cur with
          | none =>
            have hf' : L = dec par left i := hf
            subst hf'
            clear hf hx hy
            simp only [pz]
            go_wp2_with fail
            go_ret
            exact ⟨.inr ⟨HF.out.symm, rfl, hh⟩, ss⟩
          | some a =>
            obtain ⟨haf, han⟩ := hx a rfl
            obtain ⟨f, rfl⟩ : ∃ f', f = f' + 1 := ⟨f - 1, by omega⟩
            rw [upo_succ, List.foldl_cons] at hf
            have Hf : Hid _ := hf
            have HX : Hid (∀ x, par a = some x → x < f ∧ x < n) := fun x hx => by have := HP.out a x han hx; omega
            have HK : Hid ((pz (par a) + 1).toNat < ((a : Int) + 1).toNat) := by
              show (pz (par a) + 1).toNat < ((a : Int) + 1).toNat
              cases hpa : par a with
              | none => simp [pz]
              | some p => have := HP.out a p han hpa; simp only [pz]; omega
            have hLa : L a = left a := hy a a rfl (Nat.le_refl _)
            have hra := HR.out a han
            have lo : 0 ≤ L a := by omega
            have hi' : L a ≤ 1099511627776 := by omega
            have HY : Hid (∀ x y, par a = some x → y ≤ x → decS L a y = left y) := fun x y e1 e2 => by
              have := HP.out a x han e1
              rw [decS, upd_other _ _ (by omega)]
              exact hy a y rfl (by omega)
            have HB : Hid _ := hh.setLeft han (L a - 1)
            obtain ⟨d0, -⟩ := hh.rcell
            obtain ⟨e0, e1, -, z1, -⟩ := hh.cells han
            obtain ⟨g0, -⟩ := HB.out.rcell
            obtain ⟨g1, -, -, -, -⟩ := HB.out.cells han
            have hal : (a : Int) < (n : Int) := by omega
            have SS : Hid _ := ss
            clear hf hx hra hLa hy hh ss c0 f0
            simp only [pz]
            go_wp2_with fail
            go_roundw
            case rel => exact ⟨par a, f, decS L a, rfl, HX.out, HY.out, HB.out, SS.out.setCell _ (.inr (.inr rfl)) _, Hf.out⟩
            case measure => exact HK.out
    | some a =>
      obtain ⟨haf, han⟩ := hx a rfl
      obtain ⟨f, rfl⟩ : ∃ f', f = f' + 1 := ⟨f - 1, by omega⟩
      rw [upo_succ, List.foldl_cons] at hf
      have Hf : Hid _ := hf
      have HX : Hid (∀ x, par a = some x → x < f ∧ x < n) := fun x hx => by have := HP.out a x han hx; omega
      have HK : Hid ((pz (par a) + 1).toNat < ((a : Int) + 1).toNat) := by
        show (pz (par a) + 1).toNat < ((a : Int) + 1).toNat
        cases hpa : par a with
        | none => simp [pz]
        | some p => have := HP.out a p han hpa; simp only [pz]; omega
      have HY : Hid _ := hy
      obtain ⟨e0, e1, -, -, -⟩ := HH.out.cells han
      have hal : (a : Int) < (n : Int) := by omega
      clear hf hx hy
      by_cases hz : (left a == 0) = true
      · have Hs : Hid (spentS left acc a = some a) := by show spentS _ _ _ = _; simp only [spentS, hz, if_true]
        simp only [pz_some]
        go_wp2_with fail
        go_round
        case rel => exact ⟨some a, par a, f, rfl, rfl, HX.out, fun x hx => by cases hx; exact han, by rw [← Hs.out]; exact Hf.out⟩
        case measure => exact HK.out
      · have hz' : (left a == 0) = false := by simpa using hz
        have Hs : Hid (spentS left acc a = acc) := by show spentS _ _ _ = _; simp only [spentS, hz', if_false, Bool.false_eq_true]
        clear hz
        simp only [pz_some]
        go_wp2_with fail
        go_round
        case rel => exact ⟨acc, par a, f, rfl, rfl, HX.out, HY.out, by rw [← Hs.out]; exact Hf.out⟩
        case measure => exact HK.out
end Go.Proofs.Ytkkkndbfokjikab
