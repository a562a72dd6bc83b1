/- What is proved: the document's Digits, text, add, number; conditions: the number is from 0 on, lengths. -/
import Derived.Test.YtlldgibpajbabaaDoorNoRh
import Derived.Test.YtlldgibpajbabaaDoorNoAt
namespace Go.Proofs.YtlldgibpajbabaaDoor
open Go.RowKit

/-- What is written ahead of the power k. -/
def dgs (n k : Nat) : List UInt8 := if n / 10 ^ k = 0 then [] else Lib.decDigits (n / 10 ^ k)
theorem dec_one {n : Nat} (h : n < 10) : Lib.decDigits n = [UInt8.ofNat (48 + n)] := by rw [Lib.decDigits, dif_pos h]
theorem dec_more {n : Nat} (h : ¬ n < 10) : Lib.decDigits n = Lib.decDigits (n / 10) ++ [UInt8.ofNat (48 + n % 10)] := by rw [Lib.decDigits, dif_neg h]
theorem dgs_div (n k : Nat) : n / 10 ^ (k + 1) = n / 10 ^ k / 10 := by rw [Nat.pow_succ, Nat.div_div_eq_div_mul]
theorem dgs_some {n k : Nat} (h : n / 10 ^ (k + 1) ≠ 0) : dgs n k = dgs n (k + 1) ++ [UInt8.ofNat (48 + n / 10 ^ k % 10)] := by
  have e := dgs_div n k
  have h1 : ¬ n / 10 ^ k < 10 := fun hl => h (by rw [e]; exact Nat.div_eq_of_lt hl)
  unfold dgs
  rw [if_neg (by omega), if_neg h, dec_more h1, e]
theorem dgs_first {n k : Nat} (h : n / 10 ^ (k + 1) = 0) (hc : n / 10 ^ k % 10 ≠ 0) : dgs n k = dgs n (k + 1) ++ [UInt8.ofNat (48 + n / 10 ^ k % 10)] := by
  have e := dgs_div n k
  have h1 : n / 10 ^ k < 10 := by omega
  unfold dgs
  rw [if_neg (by omega), if_pos h, dec_one h1, Nat.mod_eq_of_lt h1]
  rfl
theorem dgs_none {n k : Nat} (h : n / 10 ^ (k + 1) = 0) (hc : n / 10 ^ k % 10 = 0) : dgs n k = dgs n (k + 1) := by
  have e := dgs_div n k
  unfold dgs
  rw [if_pos (by omega), if_pos h]
theorem dgs_len (n k : Nat) : (dgs n (k + 1)).length = 0 ↔ n / 10 ^ (k + 1) = 0 := by
  unfold dgs
  split
  · rename_i h; simp [h]
  · rename_i h
    constructor
    · intro h2
      by_cases h3 : n / 10 ^ (k + 1) < 10
      · rw [dec_one h3] at h2; simp at h2
      · rw [dec_more h3] at h2; simp at h2
    · intro h2; exact absurd h2 h
/-- Behind the last power. -/
theorem dgs_end (n : Nat) : (if n = 0 then [48] else dgs n 0) = Lib.itoa (n : Int) := by
  have e : Lib.itoa (n : Int) = Lib.decDigits n := by unfold Lib.itoa; rw [if_neg (by omega), Int.toNat_natCast]
  rw [e]
  split
  · rename_i h
    subst h
    rw [dec_one (by decide)]
    rfl
  · rename_i h
    unfold dgs
    rw [Nat.pow_zero, Nat.div_one, if_neg h]
/-- What is written behind the powers from j on. -/
def dgX (n j : Nat) : List UInt8 := if j = 0 then Lib.itoa (n : Int) else dgs n j
def dgD (j : Nat) : Nat := if j = 0 then 0 else 10 ^ (j - 1)
theorem dgD_div (k : Nat) : dgD (k + 1) / 10 = dgD k := by
  unfold dgD
  rw [if_neg (by omega), Nat.add_sub_cancel]
  cases k with
  | zero => rfl
  | succ k =>
    rw [if_neg (by omega), Nat.add_sub_cancel, Nat.pow_succ]
    omega
theorem dgX_some {n k : Nat} (h : n / 10 ^ (k + 1) ≠ 0 ∨ n / 10 ^ k % 10 ≠ 0) : dgX n k = dgX n (k + 1) ++ [UInt8.ofNat (48 + n / 10 ^ k % 10)] := by
  have h2 : dgX n (k + 1) = dgs n (k + 1) := by unfold dgX; rw [if_neg (by omega)]
  have h3 : dgX n k = dgs n k := by
    unfold dgX
    split
    · rename_i h0
      subst h0
      rw [← dgs_end]
      rw [if_neg]
      intro e
      subst e
      simp at h
    · rfl
  rw [h2, h3]
  by_cases e : n / 10 ^ (k + 1) = 0
  · exact dgs_first e (h.resolve_left (fun h => h e))
  · exact dgs_some e
theorem dgX_none {n k : Nat} (hk : k ≠ 0) (h : n / 10 ^ (k + 1) = 0) (hc : n / 10 ^ k % 10 = 0) : dgX n k = dgX n (k + 1) := by
  unfold dgX
  rw [if_neg hk, if_neg (by omega)]
  exact dgs_none h hc
theorem dgX_zero {n : Nat} (h : n / 10 ^ (0 + 1) = 0) (hc : n / 10 ^ 0 % 10 = 0) : dgX n 0 = dgX n (0 + 1) ++ [UInt8.ofNat (48 + n / 10 ^ 0 % 10)] := by
  have hn : n = 0 := by simp at h hc; omega
  subst hn
  unfold dgX
  rw [if_pos rfl, if_neg (by omega), ← dgs_end]
  rfl
theorem dgX_len (n k : Nat) : (dgX n (k + 1)).length = 0 ↔ n / 10 ^ (k + 1) = 0 := by
  unfold dgX
  rw [if_neg (by omega)]
  exact dgs_len n k
theorem dgD_top : ((dgD 19 : Nat) : Int) = 1000000000000000000 := by simp [dgD]
theorem dgX_top {n : Nat} (h : n ≤ 9223372036854775807) : dgX n 19 = [] := by
  unfold dgX dgs
  rw [if_neg (by decide), if_pos (Nat.div_eq_of_lt (by omega))]
theorem pow_le18 {k : Nat} (h : k ≤ 18) : 10 ^ k ≤ 1000000000000000000 := Nat.le_trans (Nat.pow_le_pow_right (by omega) h) (by decide)

theorem w48 {C : Nat} (h : C < 10) : wrap64 (48 + (C : Int)) = 48 + (C : Int) := by unfold wrap64; omega
theorem m48 {C : Nat} (h : C < 10) : (48 + (C : Int)) % 256 = 48 + (C : Int) := by omega
theorem wQ {Q : Nat} (h : Q ≤ 9223372036854775807) : wrap64 (Q : Int) = (Q : Int) := by unfold wrap64; omega
theorem u8_48 {C : Nat} (h : C < 10) : IntKind.u8.wrap (48 + (C : Int)) = 48 + (C : Int) := by
  simp [IntKind.wrap, IntKind.signed, IntKind.bits]
  omega
set_option maxRecDepth 100000 in
set_option maxHeartbeats 1600000 in
theorem rdigits_any (n : Nat) (hn : n ≤ 9223372036854775807) (w : World) : Calls Tryd.prog 60 #[.int .i64 (n : Int)] w fun e w' => ∃ v, e = .returned v ∧ OwnB w.heap.size w' v (nu (Lib.itoa (n : Int))) ∧ Kept w w' := by
  have EI : Hid (dgX n 0 = Lib.itoa (n : Int)) := by show _ = _; unfold dgX; rw [if_pos rfl]
  generalize hI : Lib.itoa (n : Int) = I at *
  clear hI
  go_enter Tryd.func60, Tryd.ntmps60
  go_wp2_with fail
  go_loopw [3, 4] (fun v d wr => ∃ (j : Nat) (a : Option Addr) (c : Nat), j ≤ 19 ∧ d = .int .i64 ((dgD j : Nat) : Int) ∧ v = .slice a (dgX n j).length c ∧ OwnB w.heap.size wr v (nu (dgX n j)) ∧ (dgX n j).length ≤ 19 - j ∧ Kept w wr) (fun _ d _ => (intOf d).toNat)
  case atStart => exact ⟨19, none, 0, by decide, by rw [dgD_top], by rw [dgX_top hn]; rfl, by rw [dgX_top hn]; exact OwnB.nil _ _, by rw [dgX_top hn]; decide, Same.refl _ _⟩
  case round =>
    obtain ⟨j, a, c, hj, rfl, rfl, how, hle, hkp⟩ := hrel
    have HOW : Hid _ := how
    have HKP : Hid _ := hkp
    clear how hkp
    rename World => W
    cases j with
    | zero =>
      have e0 : ((dgD 0 : Nat) : Int) = 0 := rfl
      rw [e0]
      go_wp2_with fail
      go_ret
      have h9 := HOW.out
      rw [EI.out] at h9 ⊢
      exact ⟨_, rfl, h9, HKP.out⟩
    | succ k =>
      have ED : dgD (k + 1) = 10 ^ k := by unfold dgD; rw [if_neg (by omega), Nat.add_sub_cancel]
      have HD2 : Hid (dgD (k + 1) / 10 = dgD k) := dgD_div k
      have hp := pow_le18 (k := k) (by omega)
      have hpos : 0 < 10 ^ k := Nat.pow_pos (by decide)
      obtain ⟨D, eD⟩ : ∃ D, D = dgD (k + 1) := ⟨_, rfl⟩
      obtain ⟨C, eC⟩ : ∃ C, C = n / 10 ^ k % 10 := ⟨_, rfl⟩
      have hC : C < 10 := by omega
      obtain ⟨Q, eQ⟩ : ∃ Q, Q = n / 10 ^ k := ⟨_, rfl⟩
      rw [← eD]
      have HDk : Hid (D = 10 ^ k) := eD.trans ED
      have hDpos : 0 < D := by rw [HDk.out]; exact hpos
      have hq : (n : Int) / (D : Int) = (Q : Int) := by rw [HDk.out, eQ]; simp
      have hq2 : (n : Int).tdiv (D : Int) = (Q : Int) := by rw [Int.tdiv_eq_ediv_of_nonneg (by omega)]; exact hq
      have HQ1 : Hid ((n : Int) / (D : Int) = (Q : Int)) := hq
      have HQ2 : Hid ((n : Int).tdiv (D : Int) = (Q : Int)) := hq2
      clear hq hq2
      have hr : (Q : Int) % 10 = (C : Int) := by rw [eC, ← eQ]; omega
      have hr2 : (Q : Int).tmod 10 = (C : Int) := by rw [Int.tmod_eq_emod_of_nonneg (by omega)]; exact hr
      have HR1 : Hid ((Q : Int) % 10 = (C : Int)) := hr
      have HR2 : Hid ((Q : Int).tmod 10 = (C : Int)) := hr2
      clear hr hr2
      have hX1 : Hid (∀ b : Bool, b = true → (n / 10 ^ (k + 1) ≠ 0 ∨ C ≠ 0 ∨ k = 0) → dgX n k = dgX n (k + 1) ++ [UInt8.ofNat (48 + C)]) := fun _ _ h => by
        rw [eC]
        by_cases h1 : n / 10 ^ (k + 1) ≠ 0 ∨ n / 10 ^ k % 10 ≠ 0
        · exact dgX_some h1
        · have h2 : k = 0 := by omega
          subst h2
          exact dgX_zero (by omega) (by omega)
      have hX2 : Hid (n / 10 ^ (k + 1) = 0 → C = 0 → k ≠ 0 → dgX n k = dgX n (k + 1)) := fun h1 h2 h3 => dgX_none h3 h1 (by omega)
      have hLN : Hid ((dgX n (k + 1)).length = 0 ↔ n / 10 ^ (k + 1) = 0) := dgX_len n k
      have hD1 : Hid (D = 1 ↔ k = 0) := by
        show _ ↔ _
        rw [HDk.out]
        cases k with
        | zero => simp
        | succ k => rw [Nat.pow_succ]; have : 0 < 10 ^ k := Nat.pow_pos (by decide); omega
      have hDd : (D : Int) / 10 = ((dgD k : Nat) : Int) := by have := HD2.out; omega
      have HDL : Hid (dgD k < D) := by show _ < _; have := HD2.out; omega
      have hDm : (D : Int) ≤ 1000000000000000000 := by have := HDk.out; omega
      have HLE : Hid ((dgX n (k + 1)).length ≤ 19 - (k + 1) ∧ k ≤ 18) := ⟨hle, by omega⟩
      have hn2 : (n : Int) ≤ 9223372036854775807 := by omega
      have HQ : Hid (Q ≤ 9223372036854775807) := by show _ ≤ _; rw [eQ]; exact Nat.le_trans (Nat.div_le_self _ _) hn
      clear ED hp hpos eD eC eQ hle hj
      obtain ⟨X, eX⟩ : ∃ X, X = dgX n (k + 1) := ⟨_, rfl⟩
      have HX : Hid (X = dgX n (k + 1)) := eX
      rw [← eX] at HOW hX1 hX2 hLN HLE ⊢
      clear eX
      have hw48 := w48 hC
      have hu8 := u8_48 hC
      have hu9 := m48 hC
      have hwQ := wQ HQ.out
      have HAP : Hid _ := app_one (48 + (C : Int)) HOW.out (by rw [nu_len]; have := HLE.out.1; omega) HKP.out.size
      have HGO : Hid (∀ W' v', OwnB w.heap.size W' v' (nu X ++ [48 + (C : Int)]) → Same (fun i => w.heap.size ≤ i) W W' → (n / 10 ^ (k + 1) ≠ 0 ∨ C ≠ 0 ∨ k = 0) → ∃ (j : Nat) (a : Option Addr) (c : Nat), j ≤ 19 ∧ (Value.int .i64 ((dgD k : Nat) : Int)) = .int .i64 ((dgD j : Nat) : Int) ∧ v' = .slice a (dgX n j).length c ∧ OwnB w.heap.size W' v' (nu (dgX n j)) ∧ (dgX n j).length ≤ 19 - j ∧ Kept w W') := fun W' v' o s h => by
        have e := hX1.out true rfl h
        have e2 : nu X ++ [48 + (C : Int)] = nu (dgX n k) := by
          rw [e, nu_app, nu_byte (by omega)]
          congr 1
        rw [e2] at o
        obtain ⟨a', c', e', -⟩ := OwnB.bytes o
        rw [nu_len] at e'
        exact ⟨k, a', c', by have := HLE.out.2; omega, rfl, e', o, by rw [e, List.length_append]; have := HLE.out; simp; omega, Same.trans HKP.out s (fun i hi e => by omega)⟩
      have cD : decide ((0 : Int) < (D : Int)) = true := decide_eq_true (by omega)
      have cD2 : (0 : Int) < (D : Int) := by omega
      have hD0 : ((D : Int) == 0) = false := beq_eq_false_iff_ne.2 (by omega)
      have hDn : ¬ (D : Int) = 0 := by omega
      by_cases hc0 : C ≠ 0
      · have q1 : (0 : Int) < (C : Int) := by omega
        have q1' : decide ((0 : Int) < (C : Int)) = true := decide_eq_true q1
        have HOR : Hid (n / 10 ^ (k + 1) ≠ 0 ∨ C ≠ 0 ∨ k = 0) := .inr (.inl hc0)
        clear hc0
        have hq := HQ1.out
        have hq2 := HQ2.out
        have hr := HR1.out
        have hr2 := HR2.out
        go_wp2_with (at_builtin; refine wpList_app rfl (.tmp 25) (.tmp 29) 39 39 rfl _ _ rfl rfl _ HAP.out ?_; rintro v5 w5 ⟨r5, s5⟩)
        refine ⟨HGO.out _ _ r5 s5 HOR.out, ?_⟩
        clear hq hq2 hr hr2
        simp only [intOf]
        have := HDL.out
        omega
      · have hC0 : C = 0 := by omega
        have q1 : ¬ (0 : Int) < (C : Int) := by omega
        have q1' : decide ((0 : Int) < (C : Int)) = false := decide_eq_false q1
        have HC0 : Hid (C = 0) := hC0
        have HAP0 : Hid _ := app_one 48 HOW.out (by rw [nu_len]; have := HLE.out.1; omega) HKP.out.size
        have E48 : Hid (∀ W' v', OwnB w.heap.size W' v' (nu X ++ [48]) → OwnB w.heap.size W' v' (nu X ++ [48 + (C : Int)])) := fun W' v' h => by rw [HC0.out]; exact h
        clear hc0 hC0
        by_cases hk0 : k = 0
        · have hD' : D = 1 := hD1.out.2 hk0
          have qd : ((D : Int) == 1) = true := by rw [hD']; rfl
          have HOR : Hid (n / 10 ^ (k + 1) ≠ 0 ∨ C ≠ 0 ∨ k = 0) := .inr (.inr hk0)
          clear hk0 hD'
          have hq := HQ1.out
          have hq2 := HQ2.out
          have hr := HR1.out
          have hr2 := HR2.out
          go_wp2_with (at_builtin; refine wpList_app rfl (.tmp 25) (.tmp 29) 39 39 rfl _ _ rfl rfl _ HAP0.out ?_; rintro v5 w5 ⟨r5, s5⟩)
          refine ⟨HGO.out _ _ (E48.out _ _ r5) s5 HOR.out, ?_⟩
          clear hq hq2 hr hr2
          simp only [intOf]
          have := HDL.out
          omega
        · have hD' : ¬ D = 1 := fun e => hk0 (hD1.out.1 e)
          have qd : ((D : Int) == 1) = false := beq_eq_false_iff_ne.2 (by omega)
          clear hD'
          by_cases hx0 : X.length = 0
          · have qx : ¬ (0 : Int) < (X.length : Int) := by omega
            have qx' : decide ((0 : Int) < (X.length : Int)) = false := decide_eq_false qx
            have HST : Hid (dgX n k = X) := hX2.out (hLN.out.1 hx0) HC0.out hk0
            clear hk0 hx0
            have hq := HQ1.out
            have hq2 := HQ2.out
            have hr := HR1.out
            have hr2 := HR2.out
            go_wp2_with fail
            refine ⟨⟨k, a, c, by have := HLE.out.2; clear hq hq2 hr hr2; omega, rfl, by rw [HST.out], by rw [HST.out]; exact HOW.out, by rw [HST.out]; have := HLE.out; clear hq hq2 hr hr2; omega, HKP.out⟩, ?_⟩
            clear hq hq2 hr hr2
            simp only [intOf]
            have := HDL.out
            omega
          · have qx : (0 : Int) < (X.length : Int) := by omega
            have qx' : decide ((0 : Int) < (X.length : Int)) = true := decide_eq_true qx
            have HOR : Hid (n / 10 ^ (k + 1) ≠ 0 ∨ C ≠ 0 ∨ k = 0) := .inl (fun e => hx0 (hLN.out.2 e))
            clear hk0 hx0
            have hq := HQ1.out
            have hq2 := HQ2.out
            have hr := HR1.out
            have hr2 := HR2.out
            go_wp2_with (at_builtin; refine wpList_app rfl (.tmp 25) (.tmp 29) 39 39 rfl _ _ rfl rfl _ HAP0.out ?_; rintro v5 w5 ⟨r5, s5⟩)
            refine ⟨HGO.out _ _ (E48.out _ _ r5) s5 HOR.out, ?_⟩
            clear hq hq2 hr hr2
            simp only [intOf]
            have := HDL.out
            omega
end Go.Proofs.YtlldgibpajbabaaDoor
