/- What is proved: the document's Digits; the law NotationWords; plain facts on lines and transactions read back; conditions: lengths, and that the library's table of powers lies as its text lays it. -/
import Derived.Test.YtfhaiklfbnfdlaaDoorNoRr
import Derived.Test.YtfhaiklfbnfdlaaDoorNoAt
import Derived.Test.YtfhaiklfbnfdlaaDoorNoAn
import Derived.Test.YtfhaiklfbnfdlaaDoorNoPr
namespace Go.Proofs.YtfhaiklfbnfdlaaDoor
open Go.RowKit

/-- What is written ahead of the power k. -/
def dgs (n k : Nat) : List UInt8 := if n / 10 ^ k = 0 then [] else Lib.decDigits (n / 10 ^ k)
theorem dec_one {n : Nat} (h : n < 10) : Lib.decDigits n = [UInt8.ofNat (48 + n)] := by rw [Lib.decDigits, dif_pos h]
theorem dec_more {n : Nat} (h : ¬ n < 10) : Lib.decDigits n = Lib.decDigits (n / 10) ++ [UInt8.ofNat (48 + n % 10)] := by rw [Lib.decDigits, dif_neg h]
theorem dgs_div (n k : Nat) : n / 10 ^ (k + 1) = n / 10 ^ k / 10 := by rw [Nat.pow_succ, Nat.div_div_eq_div_mul]
theorem dgs_some {n k : Nat} (h : n / 10 ^ (k + 1) ≠ 0) : dgs n k = dgs n (k + 1) ++ [UInt8.ofNat (48 + n / 10 ^ k % 10)] := by
  have e := dgs_div n k
  have h1 : ¬ n / 10 ^ k < 10 := fun hl => h (by rw [e]; exact Nat.div_eq_of_lt hl)
  unfold dgs
  rw [if_neg (by omega), if_neg h, dec_more h1, e]
theorem dgs_first {n k : Nat} (h : n / 10 ^ (k + 1) = 0) (hc : n / 10 ^ k % 10 ≠ 0) : dgs n k = dgs n (k + 1) ++ [UInt8.ofNat (48 + n / 10 ^ k % 10)] := by
  have e := dgs_div n k
  have h1 : n / 10 ^ k < 10 := by omega
  unfold dgs
  rw [if_neg (by omega), if_pos h, dec_one h1, Nat.mod_eq_of_lt h1]
  rfl
theorem dgs_none {n k : Nat} (h : n / 10 ^ (k + 1) = 0) (hc : n / 10 ^ k % 10 = 0) : dgs n k = dgs n (k + 1) := by
  have e := dgs_div n k
  unfold dgs
  rw [if_pos (by omega), if_pos h]
theorem dgs_len (n k : Nat) : (dgs n (k + 1)).length = 0 ↔ n / 10 ^ (k + 1) = 0 := by
  unfold dgs
  split
  · rename_i h; simp [h]
  · rename_i h
    constructor
    · intro h2
      by_cases h3 : n / 10 ^ (k + 1) < 10
      · rw [dec_one h3] at h2; simp at h2
      · rw [dec_more h3] at h2; simp at h2
    · intro h2; exact absurd h2 h
/-- Behind the last power. -/
theorem dgs_end (n : Nat) : (if n = 0 then [48] else dgs n 0) = Lib.itoa (n : Int) := by
  have e : Lib.itoa (n : Int) = Lib.decDigits n := by unfold Lib.itoa; rw [if_neg (by omega), Int.toNat_natCast]
  rw [e]
  split
  · rename_i h
    subst h
    rw [dec_one (by decide)]
    rfl
  · rename_i h
    unfold dgs
    rw [Nat.pow_zero, Nat.div_one, if_neg h]
/-- What is written behind the powers from j on. -/
def dgX (n j : Nat) : List UInt8 := if j = 0 then Lib.itoa (n : Int) else dgs n j
def dgD (j : Nat) : Nat := if j = 0 then 0 else 10 ^ (j - 1)
theorem dgD_div (k : Nat) : dgD (k + 1) / 10 = dgD k := by
  unfold dgD
  rw [if_neg (by omega), Nat.add_sub_cancel]
  cases k with
  | zero => rfl
  | succ k =>
    rw [if_neg (by omega), Nat.add_sub_cancel, Nat.pow_succ]
    omega
theorem dgX_some {n k : Nat} (h : n / 10 ^ (k + 1) ≠ 0 ∨ n / 10 ^ k % 10 ≠ 0) : dgX n k = dgX n (k + 1) ++ [UInt8.ofNat (48 + n / 10 ^ k % 10)] := by
  have h2 : dgX n (k + 1) = dgs n (k + 1) := by unfold dgX; rw [if_neg (by omega)]
  have h3 : dgX n k = dgs n k := by
    unfold dgX
    split
    · rename_i h0
      subst h0
      rw [← dgs_end]
      rw [if_neg]
      intro e
      subst e
      simp at h
    · rfl
  rw [h2, h3]
  by_cases e : n / 10 ^ (k + 1) = 0
  · exact dgs_first e (h.resolve_left (fun h => h e))
  · exact dgs_some e
theorem dgX_none {n k : Nat} (hk : k ≠ 0) (h : n / 10 ^ (k + 1) = 0) (hc : n / 10 ^ k % 10 = 0) : dgX n k = dgX n (k + 1) := by
  unfold dgX
  rw [if_neg hk, if_neg (by omega)]
  exact dgs_none h hc
theorem dgX_zero {n : Nat} (h : n / 10 ^ (0 + 1) = 0) (hc : n / 10 ^ 0 % 10 = 0) : dgX n 0 = dgX n (0 + 1) ++ [UInt8.ofNat (48 + n / 10 ^ 0 % 10)] := by
  have hn : n = 0 := by simp at h hc; omega
  subst hn
  unfold dgX
  rw [if_pos rfl, if_neg (by omega), ← dgs_end]
  rfl
theorem dgX_len (n k : Nat) : (dgX n (k + 1)).length = 0 ↔ n / 10 ^ (k + 1) = 0 := by
  unfold dgX
  rw [if_neg (by omega)]
  exact dgs_len n k
theorem dgD_top : ((dgD 19 : Nat) : Int) = 1000000000000000000 := by simp [dgD]
theorem dgX_top {n : Nat} (h : n ≤ 9223372036854775807) : dgX n 19 = [] := by
  unfold dgX dgs
  rw [if_neg (by decide), if_pos (Nat.div_eq_of_lt (by omega))]
theorem pow_le18 {k : Nat} (h : k ≤ 18) : 10 ^ k ≤ 1000000000000000000 := Nat.le_trans (Nat.pow_le_pow_right (by omega) h) (by decide)

theorem w48 {C : Nat} (h : C < 10) : wrap64 (48 + (C : Int)) = 48 + (C : Int) := by unfold wrap64; omega
theorem m48 {C : Nat} (h : C < 10) : (48 + (C : Int)) % 256 = 48 + (C : Int) := by omega
theorem wQ {Q : Nat} (h : Q ≤ 9223372036854775807) : wrap64 (Q : Int) = (Q : Int) := by unfold wrap64; omega
theorem u8_48 {C : Nat} (h : C < 10) : IntKind.u8.wrap (48 + (C : Int)) = 48 + (C : Int) := by
  simp [IntKind.wrap, IntKind.signed, IntKind.bits]
  omega
set_option maxRecDepth 100000 in
set_option maxHeartbeats 1600000 in
theorem rdigits_any (n : Nat) (hn : n ≤ 9223372036854775807) (w : World) : Calls Tryd.prog 46 #[.int .i64 (n : Int)] w fun e w' => ∃ v, e = .returned v ∧ OwnB w.heap.size w' v (nu (Lib.itoa (n : Int))) ∧ Kept w w' := by
  have EI : Hid (dgX n 0 = Lib.itoa (n : Int)) := by show _ = _; unfold dgX; rw [if_pos rfl]
  generalize hI : Lib.itoa (n : Int) = I at *
  clear hI
  go_enter Tryd.func46, Tryd.ntmps46
  go_wp2_with fail
  go_loopw [3, 4] (fun v d wr => ∃ (j : Nat) (a : Option Addr) (c : Nat), j ≤ 19 ∧ d = .int .i64 ((dgD j : Nat) : Int) ∧ v = .slice a (dgX n j).length c ∧ OwnB w.heap.size wr v (nu (dgX n j)) ∧ (dgX n j).length ≤ 19 - j ∧ Kept w wr) (fun _ d _ => (intOf d).toNat)
  case atStart => exact ⟨19, none, 0, by decide, by rw [dgD_top], by rw [dgX_top hn]; rfl, by rw [dgX_top hn]; exact OwnB.nil _ _, by rw [dgX_top hn]; decide, Same.refl _ _⟩
  case round =>
    obtain ⟨j, a, c, hj, rfl, rfl, how, hle, hkp⟩ := hrel
    have HOW : Hid _ := how
    have HKP : Hid _ := hkp
    clear how hkp
    rename World => W
    cases j with
    | zero =>
      have e0 : ((dgD 0 : Nat) : Int) = 0 := rfl
      rw [e0]
      go_wp2_with fail
      go_ret
      have h9 := HOW.out
      rw [EI.out] at h9 ⊢
      exact ⟨_, rfl, h9, HKP.out⟩
    | succ k =>
      have ED : dgD (k + 1) = 10 ^ k := by unfold dgD; rw [if_neg (by omega), Nat.add_sub_cancel]
      have HD2 : Hid (dgD (k + 1) / 10 = dgD k) := dgD_div k
      have hp := pow_le18 (k := k) (by omega)
      have hpos : 0 < 10 ^ k := Nat.pow_pos (by decide)
      obtain ⟨D, eD⟩ : ∃ D, D = dgD (k + 1) := ⟨_, rfl⟩
      obtain ⟨C, eC⟩ : ∃ C, C = n / 10 ^ k % 10 := ⟨_, rfl⟩
      have hC : C < 10 := by omega
      obtain ⟨Q, eQ⟩ : ∃ Q, Q = n / 10 ^ k := ⟨_, rfl⟩
      rw [← eD]
      have HDk : Hid (D = 10 ^ k) := eD.trans ED
      have hDpos : 0 < D := by rw [HDk.out]; exact hpos
      have hq : (n : Int) / (D : Int) = (Q : Int) := by rw [HDk.out, eQ]; simp
      have hq2 : (n : Int).tdiv (D : Int) = (Q : Int) := by rw [Int.tdiv_eq_ediv_of_nonneg (by omega)]; exact hq
      have HQ1 : Hid ((n : Int) / (D : Int) = (Q : Int)) := hq
      have HQ2 : Hid ((n : Int).tdiv (D : Int) = (Q : Int)) := hq2
      clear hq hq2
      have hr : (Q : Int) % 10 = (C : Int) := by rw [eC, ← eQ]; omega
      have hr2 : (Q : Int).tmod 10 = (C : Int) := by rw [Int.tmod_eq_emod_of_nonneg (by omega)]; exact hr
      have HR1 : Hid ((Q : Int) % 10 = (C : Int)) := hr
      have HR2 : Hid ((Q : Int).tmod 10 = (C : Int)) := hr2
      clear hr hr2
      have hX1 : Hid (∀ b : Bool, b = true → (n / 10 ^ (k + 1) ≠ 0 ∨ C ≠ 0 ∨ k = 0) → dgX n k = dgX n (k + 1) ++ [UInt8.ofNat (48 + C)]) := fun _ _ h => by
        rw [eC]
        by_cases h1 : n / 10 ^ (k + 1) ≠ 0 ∨ n / 10 ^ k % 10 ≠ 0
        · exact dgX_some h1
        · have h2 : k = 0 := by omega
          subst h2
          exact dgX_zero (by omega) (by omega)
      have hX2 : Hid (n / 10 ^ (k + 1) = 0 → C = 0 → k ≠ 0 → dgX n k = dgX n (k + 1)) := fun h1 h2 h3 => dgX_none h3 h1 (by omega)
      have hLN : Hid ((dgX n (k + 1)).length = 0 ↔ n / 10 ^ (k + 1) = 0) := dgX_len n k
      have hD1 : Hid (D = 1 ↔ k = 0) := by
        show _ ↔ _
        rw [HDk.out]
        cases k with
        | zero => simp
        | succ k => rw [Nat.pow_succ]; have : 0 < 10 ^ k := Nat.pow_pos (by decide); omega
      have hDd : (D : Int) / 10 = ((dgD k : Nat) : Int) := by have := HD2.out; omega
      have HDL : Hid (dgD k < D) := by show _ < _; have := HD2.out; omega
      have hDm : (D : Int) ≤ 1000000000000000000 := by have := HDk.out; omega
      have HLE : Hid ((dgX n (k + 1)).length ≤ 19 - (k + 1) ∧ k ≤ 18) := ⟨hle, by omega⟩
      have hn2 : (n : Int) ≤ 9223372036854775807 := by omega
      have HQ : Hid (Q ≤ 9223372036854775807) := by show _ ≤ _; rw [eQ]; exact Nat.le_trans (Nat.div_le_self _ _) hn
      clear ED hp hpos eD eC eQ hle hj
      obtain ⟨X, eX⟩ : ∃ X, X = dgX n (k + 1) := ⟨_, rfl⟩
      have HX : Hid (X = dgX n (k + 1)) := eX
      rw [← eX] at HOW hX1 hX2 hLN HLE ⊢
      clear eX
      have hw48 := w48 hC
      have hu8 := u8_48 hC
      have hu9 := m48 hC
      have hwQ := wQ HQ.out
      have HAP : Hid _ := app_one (48 + (C : Int)) HOW.out (by rw [nu_len]; have := HLE.out.1; omega) HKP.out.size
      have HGO : Hid (∀ W' v', OwnB w.heap.size W' v' (nu X ++ [48 + (C : Int)]) → Same (fun i => w.heap.size ≤ i) W W' → (n / 10 ^ (k + 1) ≠ 0 ∨ C ≠ 0 ∨ k = 0) → ∃ (j : Nat) (a : Option Addr) (c : Nat), j ≤ 19 ∧ (Value.int .i64 ((dgD k : Nat) : Int)) = .int .i64 ((dgD j : Nat) : Int) ∧ v' = .slice a (dgX n j).length c ∧ OwnB w.heap.size W' v' (nu (dgX n j)) ∧ (dgX n j).length ≤ 19 - j ∧ Kept w W') := fun W' v' o s h => by
        have e := hX1.out true rfl h
        have e2 : nu X ++ [48 + (C : Int)] = nu (dgX n k) := by
          rw [e, nu_app, nu_byte (by omega)]
          congr 1
        rw [e2] at o
        obtain ⟨a', c', e', -⟩ := OwnB.bytes o
        rw [nu_len] at e'
        exact ⟨k, a', c', by have := HLE.out.2; omega, rfl, e', o, by rw [e, List.length_append]; have := HLE.out; simp; omega, Same.trans HKP.out s (fun i hi e => by omega)⟩
      have cD : decide ((0 : Int) < (D : Int)) = true := decide_eq_true (by omega)
      have cD2 : (0 : Int) < (D : Int) := by omega
      have hD0 : ((D : Int) == 0) = false := beq_eq_false_iff_ne.2 (by omega)
      have hDn : ¬ (D : Int) = 0 := by omega
      by_cases hc0 : C ≠ 0
      · have q1 : (0 : Int) < (C : Int) := by omega
        have q1' : decide ((0 : Int) < (C : Int)) = true := decide_eq_true q1
        have HOR : Hid (n / 10 ^ (k + 1) ≠ 0 ∨ C ≠ 0 ∨ k = 0) := .inr (.inl hc0)
        clear hc0
        have hq := HQ1.out
        have hq2 := HQ2.out
        have hr := HR1.out
        have hr2 := HR2.out
        go_wp2_with (at_builtin; refine wpList_app rfl (.tmp 25) (.tmp 29) 32 32 rfl _ _ rfl rfl _ HAP.out ?_; rintro v5 w5 ⟨r5, s5⟩)
        refine ⟨HGO.out _ _ r5 s5 HOR.out, ?_⟩
        clear hq hq2 hr hr2
        simp only [intOf]
        have := HDL.out
        omega
      · have hC0 : C = 0 := by omega
        have q1 : ¬ (0 : Int) < (C : Int) := by omega
        have q1' : decide ((0 : Int) < (C : Int)) = false := decide_eq_false q1
        have HC0 : Hid (C = 0) := hC0
        have HAP0 : Hid _ := app_one 48 HOW.out (by rw [nu_len]; have := HLE.out.1; omega) HKP.out.size
        have E48 : Hid (∀ W' v', OwnB w.heap.size W' v' (nu X ++ [48]) → OwnB w.heap.size W' v' (nu X ++ [48 + (C : Int)])) := fun W' v' h => by rw [HC0.out]; exact h
        clear hc0 hC0
        by_cases hk0 : k = 0
        · have hD' : D = 1 := hD1.out.2 hk0
          have qd : ((D : Int) == 1) = true := by rw [hD']; rfl
          have HOR : Hid (n / 10 ^ (k + 1) ≠ 0 ∨ C ≠ 0 ∨ k = 0) := .inr (.inr hk0)
          clear hk0 hD'
          have hq := HQ1.out
          have hq2 := HQ2.out
          have hr := HR1.out
          have hr2 := HR2.out
          go_wp2_with (at_builtin; refine wpList_app rfl (.tmp 25) (.tmp 29) 32 32 rfl _ _ rfl rfl _ HAP0.out ?_; rintro v5 w5 ⟨r5, s5⟩)
          refine ⟨HGO.out _ _ (E48.out _ _ r5) s5 HOR.out, ?_⟩
          clear hq hq2 hr hr2
          simp only [intOf]
          have := HDL.out
          omega
        · have hD' : ¬ D = 1 := fun e => hk0 (hD1.out.1 e)
          have qd : ((D : Int) == 1) = false := beq_eq_false_iff_ne.2 (by omega)
          clear hD'
          by_cases hx0 : X.length = 0
          · have qx : ¬ (0 : Int) < (X.length : Int) := by omega
            have qx' : decide ((0 : Int) < (X.length : Int)) = false := decide_eq_false qx
            have HST : Hid (dgX n k = X) := hX2.out (hLN.out.1 hx0) HC0.out hk0
            clear hk0 hx0
            have hq := HQ1.out
            have hq2 := HQ2.out
            have hr := HR1.out
            have hr2 := HR2.out
            go_wp2_with fail
            refine ⟨⟨k, a, c, by have := HLE.out.2; clear hq hq2 hr hr2; omega, rfl, by rw [HST.out], by rw [HST.out]; exact HOW.out, by rw [HST.out]; have := HLE.out; clear hq hq2 hr hr2; omega, HKP.out⟩, ?_⟩
            clear hq hq2 hr hr2
            simp only [intOf]
            have := HDL.out
            omega
          · have qx : (0 : Int) < (X.length : Int) := by omega
            have qx' : decide ((0 : Int) < (X.length : Int)) = true := decide_eq_true qx
            have HOR : Hid (n / 10 ^ (k + 1) ≠ 0 ∨ C ≠ 0 ∨ k = 0) := .inl (fun e => hx0 (hLN.out.2 e))
            clear hk0 hx0
            have hq := HQ1.out
            have hq2 := HQ2.out
            have hr := HR1.out
            have hr2 := HR2.out
            go_wp2_with (at_builtin; refine wpList_app rfl (.tmp 25) (.tmp 29) 32 32 rfl _ _ rfl rfl _ HAP0.out ?_; rintro v5 w5 ⟨r5, s5⟩)
            refine ⟨HGO.out _ _ (E48.out _ _ r5) s5 HOR.out, ?_⟩
            clear hq hq2 hr hr2
            simp only [intOf]
            have := HDL.out
            omega
end Go.Proofs.YtfhaiklfbnfdlaaDoor

namespace Go.Proofs.YtfhaiklfbnfdlaaDoor
open Go.RowKit

theorem hv_hx {n : Nat} (h : n < 16) : hv (hx n) = (n : Int) := by
  obtain ⟨b, h1, h2⟩ := hv_dig ⟨n, h⟩
  have : hx n = b := by unfold hx; rw [List.getD_eq_getElem?_getD, h1]; rfl
  rw [this]
  exact h2
theorem hx_hv {b : UInt8} {n : Nat} (h : hv b = (n : Int)) : hx n = b ∧ n < 16 := by
  rcases hv_or b with e | ⟨h0, h1, h2⟩
  · omega
  · rw [h, Int.toNat_natCast] at h2
    exact ⟨by unfold hx; rw [List.getD_eq_getElem?_getD, h2]; rfl, by omega⟩
theorem byte_split (b : UInt8) : UInt8.ofNat (16 * (b.toNat / 16) + b.toNat % 16) = b := by
  rw [show 16 * (b.toNat / 16) + b.toNat % 16 = b.toNat by omega]
  simp
theorem unhx_hexs : ∀ l : List UInt8, unhx (hexs l) = some l
  | [] => rfl
  | b :: l => by
    have ih := unhx_hexs l
    have e : hexs (b :: l) = hx (b.toNat / 16) :: hx (b.toNat % 16) :: hexs l := rfl
    have h1 := b.toNat_lt
    have e1 := hv_hx (n := b.toNat / 16) (by omega)
    have e2 := hv_hx (n := b.toNat % 16) (by omega)
    rw [e]
    unfold unhx
    rw [e1, e2, ih, if_neg (by omega)]
    simp only [Int.toNat_natCast, Option.map_some]
    rw [byte_split]
theorem hexs_unhx : ∀ (r c : List UInt8), unhx r = some c → hexs c = r
  | [], c, h => by
    cases h
    rfl
  | [_], c, h => by simp [unhx] at h
  | a :: b :: r, c, h => by
    unfold unhx at h
    split at h
    · cases h
    · rename_i hn
      obtain ⟨c', hc', rfl⟩ := Option.map_eq_some_iff.1 h
      have ih := hexs_unhx r c' hc'
      have e1 : hv a = (((hv a).toNat : Nat) : Int) := by omega
      have e2 : hv b = (((hv b).toNat : Nat) : Int) := by omega
      obtain ⟨g1, k1⟩ := hx_hv e1
      obtain ⟨g2, k2⟩ := hx_hv e2
      generalize (hv a).toNat = x at *
      generalize (hv b).toNat = y at *
      have ez : (UInt8.ofNat (16 * x + y)).toNat = 16 * x + y := by simp; omega
      show hx ((UInt8.ofNat (16 * x + y)).toNat / 16) :: hx ((UInt8.ofNat (16 * x + y)).toNat % 16) :: hexs c' = _
      rw [ez, show (16 * x + y) / 16 = x by omega, show (16 * x + y) % 16 = y by omega, g1, g2, ih]
theorem uwd_wd (l : List UInt8) : uwd (wd l) = some l := by
  unfold wd
  by_cases h : pln l = true
  · rw [if_pos h]
    unfold uwd
    rw [if_pos h]
  · rw [if_neg h]
    unfold uwd
    have : ¬ pln (35 :: hexs l) = true := by unfold pln; simp [sm, smI]
    rw [if_neg this]
    dsimp only
    rw [if_pos rfl, unhx_hexs]
    dsimp only
    rw [if_neg h]
theorem wd_uwd {l c : List UInt8} (h : uwd l = some c) : wd c = l := by
  unfold uwd at h
  split at h
  · rename_i hp
    cases h
    unfold wd
    rw [if_pos hp]
  · cases l with
    | nil => cases h
    | cons a r =>
      dsimp only at h
      split at h
      · rename_i ha
        cases hu : unhx r with
        | none => rw [hu] at h; cases h
        | some s =>
          rw [hu] at h
          dsimp only at h
          split at h
          · cases h
          · rename_i hs
            cases h
            unfold wd
            rw [if_neg hs, hexs_unhx r _ hu, ha]
      · cases h
theorem uwd_len {l c : List UInt8} (h : uwd l = some c) : c.length ≤ l.length := by
  have := wd_uwd h
  rw [← this]
  unfold wd
  split
  · exact Nat.le_refl _
  · rw [List.length_cons, hexs_len]; omega

end Go.Proofs.YtfhaiklfbnfdlaaDoor

namespace Go.Proofs.YtfhaiklfbnfdlaaDoor
open Go.RowKit

theorem has_app (p r : List UInt8) : Lib.hasPrefix (p ++ r) p = true := by
  unfold Lib.hasPrefix
  exact List.isPrefixOf_iff_prefix.2 (List.prefix_append p r)
theorem trim_app (p r : List UInt8) : Lib.trimPrefix (p ++ r) p = r := by
  unfold Lib.trimPrefix
  rw [if_pos (has_app p r), List.drop_left]
theorem has_inv {l p : List UInt8} (h : Lib.hasPrefix l p = true) : l = p ++ Lib.trimPrefix l p := by
  unfold Lib.trimPrefix
  rw [if_pos h]
  obtain ⟨r, e⟩ := List.isPrefixOf_iff_prefix.1 h
  rw [← e, List.drop_left]
theorem mst_app (p r : List UInt8) : mst p ⟨p ++ r, false⟩ = ⟨r, false⟩ := by
  unfold mst
  simp only [trim_app, has_app]
  rfl
theorem mst_inv {p : List UInt8} {s : Rs} (h : (mst p s).f = false) : s.f = false ∧ s.l = p ++ (mst p s).l := by
  unfold mst at h ⊢
  simp only [Bool.or_eq_false_iff, Bool.not_eq_false'] at h
  exact ⟨h.1, has_inv h.2⟩
/-- The next byte is none of a kind. -/
def Halt (f : UInt8 → Bool) (r : List UInt8) : Prop := ∀ b, r.head? = some b → f b = false
theorem lead_stop {f : UInt8 → Bool} : ∀ {a r : List UInt8}, a.all f = true → Halt f r → lead f (a ++ r) = a.length
  | [], [], _, _ => rfl
  | [], b :: r, _, h => by
    have := h b rfl
    simp [lead, this]
  | x :: a, r, ha, h => by
    simp only [List.all_cons, Bool.and_eq_true] at ha
    have ih := lead_stop (f := f) (a := a) (r := r) ha.2 h
    unfold lead at ih ⊢
    rw [List.cons_append, List.takeWhile_cons, ha.1]
    simp [ih]
theorem dg48 {k : Nat} (h : k < 10) : (UInt8.ofNat (48 + k)).toNat = 48 + k := by
  rw [UInt8.toNat_ofNat']
  omega
theorem dg_of {k : Nat} (h : k < 10) : dg (UInt8.ofNat (48 + k)) = true := by
  unfold dg
  rw [dg48 h, decide_eq_true (by omega), decide_eq_true (by omega)]
  rfl
theorem dec_dg (n : Nat) : (Lib.decDigits n).all dg = true := by
  by_cases h : n < 10
  · rw [dec_one h]
    simp only [List.all_cons, dg_of h, List.all_nil, Bool.and_true]
  · rw [dec_more h, List.all_append, dec_dg (n / 10)]
    simp only [List.all_cons, dg_of (Nat.mod_lt n (by omega)), List.all_nil, Bool.and_true]
termination_by n
decreasing_by omega
theorem dec_val (n : Nat) : val 0 (Lib.decDigits n) = n := by
  by_cases h : n < 10
  · rw [dec_one h]
    show 10 * 0 + ((UInt8.ofNat (48 + n)).toNat - 48) = n
    rw [dg48 h]
    omega
  · rw [dec_more h, val_snoc, dec_val (n / 10), dg48 (Nat.mod_lt n (by omega))]
    omega
termination_by n
decreasing_by omega
theorem dec_len : ∀ (k n : Nat), n < 10 ^ (k + 1) → (Lib.decDigits n).length ≤ k + 1
  | 0, n, h => by rw [dec_one (by simpa using h)]; simp
  | k + 1, n, h => by
    by_cases h9 : n < 10
    · rw [dec_one h9]; simp
    · have := dec_len k (n / 10) (by rw [Nat.pow_succ] at h; omega)
      rw [dec_more h9]
      simp
      omega
theorem head_app {l : List UInt8} (h : l ≠ []) (r : List UInt8) : (l ++ r).head? = l.head? := by
  cases l with
  | nil => exact (h rfl).elim
  | cons a l => rfl
theorem dec_ne (n : Nat) : Lib.decDigits n ≠ [] := by
  by_cases h : n < 10
  · rw [dec_one h]; simp
  · rw [dec_more h]; simp
theorem dec_head (n : Nat) (h0 : n ≠ 0) : (Lib.decDigits n).head? ≠ some 48 := by
  by_cases h : n < 10
  · rw [dec_one h]
    intro e
    have e1 : UInt8.ofNat (48 + n) = 48 := by simpa using e
    have := congrArg UInt8.toNat e1
    rw [dg48 h] at this
    have h48 : (48 : UInt8).toNat = 48 := rfl
    omega
  · rw [dec_more h, head_app (dec_ne _)]
    exact dec_head (n / 10) (by omega)
termination_by n
decreasing_by omega
theorem numb_dec {n : Nat} (h : n < 1000000000000000) : numb (Lib.decDigits n) = some n := by
  have h1 := dec_len 14 n (by simpa using h)
  have h2 : (Lib.decDigits n).length ≠ 0 := fun e => dec_ne n (List.eq_nil_of_length_eq_zero e)
  unfold numb
  rw [if_neg, dec_val]
  rintro (e | e | e | ⟨e, e2⟩)
  · exact h2 e
  · omega
  · rw [dec_dg] at e; cases e
  · by_cases h0 : n = 0
    · subst h0
      rw [dec_one (by omega)] at e2
      simp at e2
    · exact dec_head n h0 e
theorem dg_nat {b : UInt8} (h : dg b = true) : 48 ≤ b.toNat ∧ b.toNat ≤ 57 := by
  unfold dg at h
  simpa using h
theorem dec_back : ∀ (k : Nat) (l : List UInt8), l.length = k + 1 → l.all dg = true → l.head? ≠ some 48 → Lib.decDigits (val 0 l) = l ∧ 0 < val 0 l
  | 0, l, hl, ha, hh => by
    match l, hl with
    | [b], _ =>
      obtain ⟨h1, h2⟩ := dg_nat (b := b) (by simpa using ha)
      have h3 : b.toNat ≠ 48 := fun e => hh (by rw [show b = 48 from UInt8.toNat_inj.1 e]; rfl)
      have e1 : val 0 [b] = b.toNat - 48 := by show 10 * 0 + (b.toNat - 48) = _; omega
      rw [e1, dec_one (by omega), show 48 + (b.toNat - 48) = b.toNat by omega, UInt8.ofNat_toNat]
      exact ⟨rfl, by omega⟩
  | k + 1, l, hl, ha, hh => by
    rcases List.eq_nil_or_concat l with rfl | ⟨l', b, rfl⟩
    · simp at hl
    · simp only [List.concat_eq_append, List.all_append, Bool.and_eq_true, List.length_append, List.length_singleton] at hl ha hh ⊢
      have hne : l' ≠ [] := fun e => by rw [e] at hl; simp at hl
      rw [head_app hne] at hh
      obtain ⟨i1, i2⟩ := dec_back k l' (by omega) ha.1 hh
      obtain ⟨h1, h2⟩ := dg_nat (b := b) (by simpa using ha.2)
      rw [val_snoc, dec_more (by omega), show (10 * val 0 l' + (b.toNat - 48)) / 10 = val 0 l' by omega, show (10 * val 0 l' + (b.toNat - 48)) % 10 = b.toNat - 48 by omega, i1, show 48 + (b.toNat - 48) = b.toNat by omega, UInt8.ofNat_toNat]
      exact ⟨rfl, by omega⟩
theorem numb_inv {l : List UInt8} {n : Nat} (h : numb l = some n) : Lib.decDigits n = l ∧ n < 1000000000000000 := by
  unfold numb at h
  split at h
  · cases h
  · rename_i hc
    simp only [not_or, not_and, Bool.not_eq_false] at hc
    obtain ⟨c1, c2, c3, c4⟩ := hc
    simp only [Option.some.injEq] at h
    subst h
    constructor
    · by_cases hh : l.head? = some 48
      · have := c4 hh
        obtain ⟨b, rfl⟩ := List.length_eq_one_iff.1 (show l.length = 1 by omega)
        simp only [List.head?_cons, Option.some.injEq] at hh
        subst hh
        have e1 : val 0 [48] = 0 := rfl
        rw [e1, dec_one (by omega)]
        rfl
      · exact (dec_back (l.length - 1) l (by omega) c3 hh).1
    · have := val_le l 0 (fun b hb => (dg_nat (List.all_eq_true.1 c3 b hb)).2)
      have h2 : 10 ^ l.length ≤ 10 ^ 15 := Nat.pow_le_pow_right (by omega) (by omega)
      simp at this h2
      omega
theorem itoa_nat (n : Nat) : Lib.itoa (n : Int) = Lib.decDigits n := by
  unfold Lib.itoa
  rw [if_neg (by omega), Int.toNat_natCast]
theorem num_app {n : Nat} (h : n < 1000000000000000) {r : List UInt8} (hr : Halt dg r) (p : List UInt8) : nv p ⟨numL p n ++ r, false⟩ = n ∧ nt p ⟨numL p n ++ r, false⟩ = ⟨r, false⟩ := by
  have e : mst p ⟨numL p n ++ r, false⟩ = ⟨Lib.decDigits n ++ r, false⟩ := by
    unfold numL
    rw [itoa_nat, List.append_assoc]
    exact mst_app _ _
  have hl : lead dg (Lib.decDigits n ++ r) = (Lib.decDigits n).length := lead_stop (dec_dg n) hr
  unfold nv nt numS numO bad drp
  rw [e]
  dsimp only
  rw [hl, List.take_left, List.drop_left, numb_dec h]
  exact ⟨rfl, rfl⟩
theorem num_inv {p : List UInt8} {s : Rs} (h : (nt p s).f = false) : s.f = false ∧ nv p s < 1000000000000000 ∧ s.l = numL p (nv p s) ++ (nt p s).l := by
  unfold nt numS bad drp at h
  simp only [Bool.or_eq_false_iff] at h
  obtain ⟨h1, h2⟩ := h
  obtain ⟨g1, g2⟩ := mst_inv h1
  cases ho : numO (mst p s) with
  | none => rw [ho] at h2; cases h2
  | some n =>
    have e1 : nv p s = n := by unfold nv; rw [ho]; rfl
    have e2 : (nt p s).l = (mst p s).l.drop (lead dg (mst p s).l) := rfl
    obtain ⟨i1, i2⟩ := numb_inv (show numb _ = some n from ho)
    refine ⟨g1, by rw [e1]; exact i2, ?_⟩
    rw [e1, e2]
    unfold numL
    rw [itoa_nat, i1, List.append_assoc, List.take_append_drop]
    exact g2
theorem hx_wch : ∀ n : Fin 16, wch (hx n.val) = true := by decide +kernel
theorem hexs_wch (l : List UInt8) : (hexs l).all wch = true := by
  unfold hexs
  rw [List.all_flatMap, List.all_eq_true]
  intro b _
  have h1 := hx_wch ⟨b.toNat / 16, by have := b.toNat_lt; omega⟩
  have h2 := hx_wch ⟨b.toNat % 16, by omega⟩
  simp only at h1 h2
  simp [h1, h2]
theorem wd_wch (l : List UInt8) : (wd l).all wch = true := by
  unfold wd
  split
  · rename_i h
    unfold pln at h
    simp only [Bool.and_eq_true] at h
    rw [List.all_eq_true] at h ⊢
    intro b hb
    unfold wch
    rw [h.1 b hb, Bool.or_true]
  · rw [List.all_cons, hexs_wch]
    rfl
theorem wrd_app {r : List UInt8} (hr : Halt wch r) (c : List UInt8) : word1 ⟨wd c ++ r, false⟩ = c ∧ wrdS ⟨wd c ++ r, false⟩ = ⟨r, false⟩ := by
  have hl : lead wch (wd c ++ r) = (wd c).length := lead_stop (wd_wch c) hr
  unfold word1 wrdS wrdO bad drp
  dsimp only
  rw [hl, List.take_left, List.drop_left, uwd_wd]
  exact ⟨rfl, rfl⟩
theorem wrd_inv {s : Rs} (h : (wrdS s).f = false) : s.f = false ∧ s.l = wd (word1 s) ++ (wrdS s).l := by
  unfold wrdS bad drp at h
  simp only [Bool.or_eq_false_iff] at h
  obtain ⟨h1, h2⟩ := h
  cases ho : wrdO s with
  | none => rw [ho] at h2; cases h2
  | some c =>
    have e1 : word1 s = c := by unfold word1; rw [ho]; rfl
    have e2 : (wrdS s).l = s.l.drop (lead wch s.l) := rfl
    refine ⟨h1, ?_⟩
    rw [e1, e2, wd_uwd (show uwd _ = some c from ho), List.take_append_drop]
/-- An operation of the form. -/
def FormO (o : OpM) : Prop := (o.kind = 1 ∧ (o.found = true ∨ o.value.size = 0)) ∨ (o.kind = 2 ∧ o.found = true) ∨ (o.kind = 3 ∧ o.found = false ∧ o.value.size = 0)
def inF (n : Int) : Prop := 0 ≤ n ∧ n < 1000000000000000
/-- A transaction that has a line. -/
structure Form (t : TxM) : Prop where
  a0 : inF t.f0
  a1 : inF t.f1
  a2 : inF t.f2
  a3 : inF t.f3
  a4 : inF t.f4
  a5 : inF t.f5
  a6 : t.f6 = 0 ∨ t.f6 = 1
  ops : ∀ o ∈ t.ops, FormO o
theorem form_right {t : TxM} (h : Right t) : Form t := by
  obtain ⟨⟨⟨a, b⟩, ⟨c, d⟩, ⟨e, f⟩, ⟨g, i⟩, ⟨j, k⟩, ⟨m, n⟩, ⟨p, q⟩⟩, -, ho⟩ := h
  exact ⟨⟨a, by omega⟩, ⟨c, by omega⟩, ⟨e, by omega⟩, ⟨g, by omega⟩, ⟨j, by omega⟩, ⟨m, by omega⟩, by omega, fun o h => (ho o h).2⟩
theorem bts_of (s : ByteArray) : bts s.data.toList = s := rfl
theorem size_nil {s : ByteArray} (h : s.size = 0) : s = bts [] := by
  apply ByteArray.ext
  have : s.data.size = 0 := h
  exact Array.eq_empty_of_size_eq_zero this
/-- What may stand behind an operation. -/
def Rest (r : List UInt8) : Prop := r = [] ∨ ∃ r', r = 32 :: r'
theorem Rest.w {r : List UInt8} (h : Rest r) : Halt wch r := by
  rcases h with rfl | ⟨r', rfl⟩
  · intro b hb; simp at hb
  · intro b hb
    simp only [List.head?_cons, Option.some.injEq] at hb
    subst hb
    decide
theorem Rest.d {r : List UInt8} (h : Rest r) : Halt dg r := by
  rcases h with rfl | ⟨r', rfl⟩
  · intro b hb; simp at hb
  · intro b hb
    simp only [List.head?_cons, Option.some.injEq] at hb
    subst hb
    decide
theorem halt_cons {f : UInt8 → Bool} {b : UInt8} (h : f b = false) (r : List UInt8) : Halt f (b :: r) := fun x hx => by
  simp only [List.head?_cons, Option.some.injEq] at hx
  subst hx
  exact h
theorem has_ne {b c : UInt8} (h : b ≠ c) (l p : List UInt8) : Lib.hasPrefix (b :: l) (c :: p) = false := by
  unfold Lib.hasPrefix
  simp [List.isPrefixOf, beq_eq_false_iff_ne.2 (Ne.symm h)]
theorem trim_no {l p : List UInt8} (h : Lib.hasPrefix l p = false) : Lib.trimPrefix l p = l := by
  unfold Lib.trimPrefix
  rw [h]
  rfl
end Go.Proofs.YtfhaiklfbnfdlaaDoor

namespace Go.Proofs.YtfhaiklfbnfdlaaDoor
open Go.RowKit

theorem cutp_app (p r : List UInt8) (f : Bool) : cutp p ⟨p ++ r, f⟩ = ⟨r, f⟩ := by
  unfold cutp
  simp only [trim_app]
theorem hasp_app (p r : List UInt8) (f : Bool) : hasp p ⟨p ++ r, f⟩ = true := has_app p r
theorem cutp_no {p : List UInt8} {s : Rs} (h : hasp p s = false) : cutp p s = s := by
  unfold cutp
  rw [trim_no h]
theorem cut_inv {p : List UInt8} {s : Rs} (h : hasp p s = true) : s.l = p ++ (cutp p s).l := has_inv h
theorem wd_cons (l : List UInt8) : ∃ b r, wd l = b :: r ∧ wch b = true := by
  have h := wd_wch l
  cases e : wd l with
  | nil =>
    unfold wd at e
    split at e
    · rename_i hp
      subst e
      simp [pln] at hp
    · cases e
  | cons b r =>
    rw [e] at h
    simp only [List.all_cons, Bool.and_eq_true] at h
    exact ⟨b, r, rfl, h.1⟩
theorem dash_no (v r : List UInt8) (f : Bool) : hasp [45] ⟨wd v ++ r, f⟩ = false := by
  obtain ⟨b, r', e, hb⟩ := wd_cons v
  unfold hasp
  rw [e]
  exact has_ne (fun e => by subst e; exact absurd hb (by decide)) _ _
theorem op_app {o : OpM} (h : FormO o) {r : List UInt8} (hr : Rest r) : opR ⟨32 :: opL o ++ r, false⟩ = (o, ⟨r, false⟩) := by
  obtain ⟨kind, key, fd, v⟩ := o
  have hw : ∀ x, Halt wch ([41, 61] ++ x) := fun x => halt_cons (by decide) _
  have hw2 : ∀ x, Halt wch ([41] ++ x) := fun x => halt_cons (by decide) _
  rcases h with ⟨h1, h2⟩ | ⟨h1, h2⟩ | ⟨h1, h2, h3⟩
  · simp only at h1 h2
    subst h1
    cases fd with
    | true =>
      have E : (32 :: opL ⟨1, key, true, v⟩ ++ r) = [32] ++ ([114, 40] ++ (wd key.data.toList ++ ([41, 61] ++ (wd v.data.toList ++ r)))) := by simp [opL, letr, keyL, valL]
      rw [E]
      unfold opR
      dsimp only
      rw [mst_app, hasp_app, cutp_app, (wrd_app (hw _) _).1, (wrd_app (hw _) _).2, mst_app, dash_no, cutp_no (dash_no _ _ _), (wrd_app hr.w _).1, (wrd_app hr.w _).2]
      rfl
    | false =>
      obtain rfl := size_nil (h2.resolve_left (by simp))
      have E : (32 :: opL ⟨1, key, false, bts []⟩ ++ r) = [32] ++ ([114, 40] ++ (wd key.data.toList ++ ([41, 61] ++ ([45] ++ r)))) := by simp [opL, letr, keyL]
      rw [E]
      unfold opR
      dsimp only
      rw [mst_app, hasp_app, cutp_app, (wrd_app (hw _) _).1, (wrd_app (hw _) _).2, mst_app, hasp_app, cutp_app]
      rfl
  · simp only at h1 h2
    subst h1 h2
    have E : (32 :: opL ⟨2, key, true, v⟩ ++ r) = [32] ++ ([119, 40] ++ (wd key.data.toList ++ ([41, 61] ++ (wd v.data.toList ++ r)))) := by simp [opL, letr, keyL, valL]
    have N : ∀ x f, hasp [114, 40] ⟨[119, 40] ++ x, f⟩ = false := fun x f => has_ne (by decide) _ _
    rw [E]
    unfold opR
    dsimp only
    rw [mst_app, N, cutp_no (N _ _), hasp_app, cutp_app, (wrd_app (hw _) _).1, (wrd_app (hw _) _).2, mst_app, (wrd_app hr.w _).1, (wrd_app hr.w _).2]
    rfl
  · simp only at h1 h2 h3
    subst h1 h2
    obtain rfl := size_nil h3
    have E : (32 :: opL ⟨3, key, false, bts []⟩ ++ r) = [32] ++ ([100, 40] ++ (wd key.data.toList ++ ([41] ++ r))) := by simp [opL, letr, keyL]
    have N : ∀ x f, hasp [114, 40] ⟨[100, 40] ++ x, f⟩ = false := fun x f => has_ne (by decide) _ _
    have N2 : ∀ x f, hasp [119, 40] ⟨[100, 40] ++ x, f⟩ = false := fun x f => has_ne (by decide) _ _
    rw [E]
    unfold opR
    dsimp only
    rw [mst_app, N, cutp_no (N _ _), N2, cutp_no (N2 _ _), mst_app, (wrd_app (hw2 _) _).1, (wrd_app (hw2 _) _).2, mst_app]
    rfl
theorem op_inv {s : Rs} (h : (opR s).2.f = false) : s.f = false ∧ FormO (opR s).1 ∧ s.l = 32 :: opL (opR s).1 ++ (opR s).2.l := by
  unfold opR at h ⊢
  dsimp only at h ⊢
  by_cases c1 : hasp [114, 40] (mst [32] s) = true
  · rw [if_pos c1] at h ⊢
    have q1 := cut_inv c1
    by_cases c2 : hasp [45] (mst [41, 61] (wrdS (cutp [114, 40] (mst [32] s)))) = true
    · rw [if_pos c2] at h ⊢
      have q2 := cut_inv c2
      obtain ⟨g1, g2⟩ := mst_inv (s := wrdS (cutp [114, 40] (mst [32] s))) h
      obtain ⟨i1, i2⟩ := wrd_inv g1
      obtain ⟨j1, j2⟩ := mst_inv (s := s) i1
      refine ⟨j1, .inl ⟨rfl, .inr rfl⟩, ?_⟩
      rw [j2, q1, i2, g2, q2]
      simp [opL, letr, keyL, bts]
    · rw [if_neg c2] at h ⊢
      have c2' : hasp [45] (mst [41, 61] (wrdS (cutp [114, 40] (mst [32] s)))) = false := by simpa using c2
      rw [cutp_no c2'] at h ⊢
      obtain ⟨k1, k2⟩ := wrd_inv h
      obtain ⟨g1, g2⟩ := mst_inv k1
      obtain ⟨i1, i2⟩ := wrd_inv g1
      obtain ⟨j1, j2⟩ := mst_inv (s := s) i1
      refine ⟨j1, .inl ⟨rfl, .inl rfl⟩, ?_⟩
      rw [j2, q1, i2, g2, k2]
      simp [opL, letr, keyL, valL, bts]
  · rw [if_neg c1] at h ⊢
    have c1' : hasp [114, 40] (mst [32] s) = false := by simpa using c1
    rw [cutp_no c1'] at h ⊢
    by_cases c2 : hasp [119, 40] (mst [32] s) = true
    · rw [if_pos c2] at h ⊢
      have q1 := cut_inv c2
      obtain ⟨k1, k2⟩ := wrd_inv h
      obtain ⟨g1, g2⟩ := mst_inv k1
      obtain ⟨i1, i2⟩ := wrd_inv g1
      obtain ⟨j1, j2⟩ := mst_inv (s := s) i1
      refine ⟨j1, .inr (.inl ⟨rfl, rfl⟩), ?_⟩
      rw [j2, q1, i2, g2, k2]
      simp [opL, letr, keyL, valL, bts]
    · rw [if_neg c2] at h ⊢
      have c2' : hasp [119, 40] (mst [32] s) = false := by simpa using c2
      rw [cutp_no c2'] at h ⊢
      obtain ⟨g1, g2⟩ := mst_inv h
      obtain ⟨i1, i2⟩ := wrd_inv g1
      obtain ⟨k1, k2⟩ := mst_inv i1
      obtain ⟨j1, j2⟩ := mst_inv (s := s) k1
      refine ⟨j1, .inr (.inr ⟨rfl, rfl, rfl⟩), ?_⟩
      rw [j2, k2, i2, g2]
      simp [opL, letr, keyL, bts]
theorem opsL_cons (o : OpM) (ops : List OpM) : opsL (o :: ops) = 32 :: opL o ++ opsL ops := by simp [opsL]
theorem opsL_rest (ops : List OpM) : Rest (opsL ops) := by
  cases ops with
  | nil => exact .inl rfl
  | cons o ops => exact .inr ⟨opL o ++ opsL ops, by rw [opsL_cons]; rfl⟩
theorem opsL_ge : ∀ (ops : List OpM), ops.length ≤ (opsL ops).length
  | [] => Nat.zero_le _
  | o :: ops => by
    have := opsL_ge ops
    rw [opsL_cons]
    simp
    omega
theorem opsR_end (n : Nat) (acc : List OpM) {s : Rs} (h : s.l = [] ∨ s.f = true) : opsR n acc s = (acc, s) := by
  cases n with
  | zero => rfl
  | succ n => rw [opsR, if_pos h]
theorem ops_app : ∀ (ops : List OpM) (n : Nat) (acc : List OpM), (∀ o ∈ ops, FormO o) → ops.length ≤ n → acc.length ≤ 17 → opsR n acc ⟨opsL ops, false⟩ = ((acc ++ ops).take 17, ⟨[], false⟩)
  | [], n, acc, _, _, ha => by
    rw [opsR_end n acc (.inl rfl), List.append_nil, List.take_of_length_le ha]
    rfl
  | o :: ops, 0, acc, _, hn, _ => by simp at hn
  | o :: ops, n + 1, acc, hf, hn, ha => by
    have h1 := op_app (hf o List.mem_cons_self) (opsL_rest ops)
    rw [opsR, if_neg (by rw [opsL_cons]; simp), opsL_cons, h1]
    dsimp only
    have hf' : ∀ x ∈ ops, FormO x := fun x hx => hf x (List.mem_cons_of_mem _ hx)
    have hn' : ops.length ≤ n := by simp at hn; omega
    by_cases c : acc.length ≤ 16
    · rw [if_pos c, ops_app ops n (acc ++ [o]) hf' hn' (by simp; omega), List.append_assoc]
      rfl
    · rw [if_neg c, ops_app ops n acc hf' hn' ha, List.take_append_of_le_length (by omega), List.take_append_of_le_length (by omega)]
theorem ops_inv : ∀ (n : Nat) (acc : List OpM) (s : Rs), rk s ≤ n → (opsR n acc s).2.f = false → s.f = false ∧ ∃ ops, (∀ o ∈ ops, FormO o) ∧ s.l = opsL ops
  | 0, acc, s, h, hf => by
    have hf' : s.f = false := hf
    unfold rk at h
    rw [hf'] at h
    simp at h
  | n + 1, acc, s, h, hf => by
    rw [opsR] at hf
    by_cases c : s.l = [] ∨ s.f = true
    · rw [if_pos c] at hf
      have hf' : s.f = false := hf
      rcases c with c | c
      · exact ⟨hf', [], by simp, by rw [c]; rfl⟩
      · rw [c] at hf'; cases hf'
    · rw [if_neg c] at hf
      simp only [not_or, Bool.not_eq_true] at c
      have h1 := op_rk (s := s) c.2
      obtain ⟨g, ops, ho, e⟩ := ops_inv n _ (opR s).2 (by omega) hf
      obtain ⟨i1, i2, i3⟩ := op_inv g
      refine ⟨i1, (opR s).1 :: ops, fun o h => ?_, by rw [i3, e, opsL_cons]⟩
      rcases List.mem_cons.1 h with rfl | h
      · exact i2
      · exact ho o h
theorem sts_app {st : Int} (h : st = 0 ∨ st = 1) (r : List UInt8) : stsV ⟨stw st ++ r, false⟩ = st ∧ stsS ⟨stw st ++ r, false⟩ = ⟨r, false⟩ := by
  rcases h with rfl | rfl
  · have e : stw 0 = wAbort := rfl
    have N : hasp wCommit ⟨wAbort ++ r, false⟩ = false := has_ne (by decide) _ _
    rw [e]
    unfold stsV stsS
    rw [N, cutp_no N, mst_app]
    exact ⟨rfl, rfl⟩
  · have e : stw 1 = wCommit := rfl
    rw [e]
    unfold stsV stsS
    rw [hasp_app, cutp_app]
    exact ⟨rfl, rfl⟩
theorem sts_inv {s : Rs} (h : (stsS s).f = false) : s.f = false ∧ (stsV s = 0 ∨ stsV s = 1) ∧ s.l = stw (stsV s) ++ (stsS s).l := by
  unfold stsS at h ⊢
  unfold stsV
  by_cases c : hasp wCommit s = true
  · rw [if_pos c] at h ⊢
    rw [if_pos c]
    exact ⟨h, .inr rfl, cut_inv c⟩
  · rw [if_neg c] at h ⊢
    rw [if_neg c]
    have c' : hasp wCommit s = false := by simpa using c
    rw [cutp_no c'] at h ⊢
    obtain ⟨g1, g2⟩ := mst_inv h
    exact ⟨g1, .inl rfl, g2⟩
theorem nat_of {n : Int} (h : inF n) : ∃ m : Nat, n = (m : Int) ∧ m < 1000000000000000 := by
  obtain ⟨m, rfl⟩ := Int.eq_ofNat_of_zero_le h.1
  exact ⟨m, rfl, by have := h.2; omega⟩
theorem line_eq (t : TxM) : line t = numL [115] t.f0 ++ (numL [32, 113] t.f1 ++ (numL [32, 116] t.f2 ++ (numL [45] t.f3 ++ (numL [32, 99] t.f4 ++ (numL [45] t.f5 ++ ([32] ++ (stw t.f6 ++ opsL t.ops))))))) := by
  unfold line headL
  simp only [List.append_assoc]
theorem form_read {t : TxM} (h : Form t) : readT (line t) = (⟨t.f0, t.f1, t.f2, t.f3, t.f4, t.f5, t.f6, t.ops.take 17⟩, true) := by
  obtain ⟨f0, f1, f2, f3, f4, f5, f6, ops⟩ := t
  obtain ⟨a0, a1, a2, a3, a4, a5, a6, ho⟩ := h
  simp only at a0 a1 a2 a3 a4 a5 a6 ho
  obtain ⟨n0, rfl, b0⟩ := nat_of a0
  obtain ⟨n1, rfl, b1⟩ := nat_of a1
  obtain ⟨n2, rfl, b2⟩ := nat_of a2
  obtain ⟨n3, rfl, b3⟩ := nat_of a3
  obtain ⟨n4, rfl, b4⟩ := nat_of a4
  obtain ⟨n5, rfl, b5⟩ := nat_of a5
  have hlen : ops.length ≤ (line ⟨n0, n1, n2, n3, n4, n5, f6, ops⟩).length + 2 := by
    have := opsL_ge ops
    unfold line
    rw [List.length_append]
    dsimp only
    omega
  have eL := line_eq ⟨n0, n1, n2, n3, n4, n5, f6, ops⟩
  dsimp only at eL
  have hd : ∀ {b : UInt8} (p x y : List UInt8), dg b = false → Halt dg ((b :: p ++ x) ++ y) := fun p x y hb => halt_cons hb _
  generalize eA : opsL ops = RA at eL
  obtain ⟨s1, s2⟩ := sts_app a6 RA
  generalize eB : stw f6 ++ RA = RB at eL s1 s2
  obtain ⟨p5, q5⟩ := num_app b5 (r := [32] ++ RB) (halt_cons (by decide) _) [45]
  generalize eC : numL [45] (n5 : Int) ++ ([32] ++ RB) = RC at eL p5 q5
  have hC : Halt dg RC := by rw [← eC]; exact halt_cons (by decide) _
  obtain ⟨p4, q4⟩ := num_app b4 hC [32, 99]
  generalize eD : numL [32, 99] (n4 : Int) ++ RC = RD at eL p4 q4
  have hD : Halt dg RD := by rw [← eD]; exact halt_cons (by decide) _
  obtain ⟨p3, q3⟩ := num_app b3 hD [45]
  generalize eE : numL [45] (n3 : Int) ++ RD = RE at eL p3 q3
  have hE : Halt dg RE := by rw [← eE]; exact halt_cons (by decide) _
  obtain ⟨p2, q2⟩ := num_app b2 hE [32, 116]
  generalize eF : numL [32, 116] (n2 : Int) ++ RE = RF at eL p2 q2
  have hF : Halt dg RF := by rw [← eF]; exact halt_cons (by decide) _
  obtain ⟨p1, q1⟩ := num_app b1 hF [32, 113]
  generalize eG : numL [32, 113] (n1 : Int) ++ RF = RG at eL p1 q1
  have hG : Halt dg RG := by rw [← eG]; exact halt_cons (by decide) _
  obtain ⟨p0, q0⟩ := num_app b0 hG [115]
  generalize line ⟨n0, n1, n2, n3, n4, n5, f6, ops⟩ = L at eL hlen
  rw [← eL] at p0 q0
  have y1 : z1 L = ⟨RG, false⟩ := q0
  have y2 : z2 L = ⟨RF, false⟩ := by unfold z2; rw [y1]; exact q1
  have y3 : z3 L = ⟨RE, false⟩ := by unfold z3; rw [y2]; exact q2
  have y4 : z4 L = ⟨RD, false⟩ := by unfold z4; rw [y3]; exact q3
  have y5 : z5 L = ⟨RC, false⟩ := by unfold z5; rw [y4]; exact q4
  have y6 : z6 L = ⟨[32] ++ RB, false⟩ := by unfold z6; rw [y5]; exact q5
  have y7 : z7 L = ⟨RB, false⟩ := by unfold z7; rw [y6]; exact mst_app _ _
  have y8 : z8 L = ⟨opsL ops, false⟩ := by unfold z8; rw [y7, eA]; exact s2
  unfold readT headT
  rw [y8, ops_app ops (L.length + 2) [] ho hlen (by simp), y1, y2, y3, y4, y5, y7, p0, p1, p2, p3, p4, p5, s1]
  rfl
theorem chain8 {l l1 l2 l3 l4 l5 l6 l7 l8 a0 a1 a2 a3 a4 a5 a6 a7 : List UInt8} (e0 : l = a0 ++ l1) (e1 : l1 = a1 ++ l2) (e2 : l2 = a2 ++ l3) (e3 : l3 = a3 ++ l4) (e4 : l4 = a4 ++ l5) (e5 : l5 = a5 ++ l6) (e6 : l6 = a6 ++ l7) (e7 : l7 = a7 ++ l8) :
    a0 ++ (a1 ++ (a2 ++ (a3 ++ (a4 ++ (a5 ++ (a6 ++ (a7 ++ l8))))))) = l := by rw [e0, e1, e2, e3, e4, e5, e6, e7]
theorem read_form {l : List UInt8} (h : (readT l).2 = true) : ∃ t, Form t ∧ line t = l := by
  have h' : (opsR (l.length + 2) [] (z8 l)).2.f = false := by simpa [readT] using h
  have hz : rk (z8 l) ≤ l.length + 2 := by have := z8_len l; unfold rk; split <;> omega
  obtain ⟨i8, ops, ho, e8⟩ := ops_inv _ _ _ hz h'
  obtain ⟨i7, st, e7⟩ := sts_inv (s := z7 l) i8
  obtain ⟨i6, e6⟩ := mst_inv (s := z6 l) i7
  obtain ⟨i5, b5, e5⟩ := num_inv (s := z5 l) i6
  obtain ⟨i4, b4, e4⟩ := num_inv (s := z4 l) i5
  obtain ⟨i3, b3, e3⟩ := num_inv (s := z3 l) i4
  obtain ⟨i2, b2, e2⟩ := num_inv (s := z2 l) i3
  obtain ⟨i1, b1, e1⟩ := num_inv (s := z1 l) i2
  obtain ⟨-, b0, e0⟩ := num_inv (s := ⟨l, false⟩) i1
  have d7 : (z7 l).l = stw (stsV (z7 l)) ++ (z8 l).l := e7
  have d6 : (z6 l).l = [32] ++ (z7 l).l := e6
  have d5 : (z5 l).l = numL [45] (nv [45] (z5 l)) ++ (z6 l).l := e5
  have d4 : (z4 l).l = numL [32, 99] (nv [32, 99] (z4 l)) ++ (z5 l).l := e4
  have d3 : (z3 l).l = numL [45] (nv [45] (z3 l)) ++ (z4 l).l := e3
  have d2 : (z2 l).l = numL [32, 116] (nv [32, 116] (z2 l)) ++ (z3 l).l := e2
  have d1 : (z1 l).l = numL [32, 113] (nv [32, 113] (z1 l)) ++ (z2 l).l := e1
  have d0 : l = numL [115] (nv [115] ⟨l, false⟩) ++ (z1 l).l := e0
  clear e0 e1 e2 e3 e4 e5 e6 e7 i1 i2 i3 i4 i5 i6 i7 i8 h h' hz
  generalize nv [115] ⟨l, false⟩ = m0 at b0 d0
  generalize nv [32, 113] (z1 l) = m1 at b1 d1
  generalize nv [32, 116] (z2 l) = m2 at b2 d2
  generalize nv [45] (z3 l) = m3 at b3 d3
  generalize nv [32, 99] (z4 l) = m4 at b4 d4
  generalize nv [45] (z5 l) = m5 at b5 d5
  generalize stsV (z7 l) = sv at st d7
  refine ⟨⟨m0, m1, m2, m3, m4, m5, sv, ops⟩, ⟨⟨by simp, by simp; omega⟩, ⟨by simp, by simp; omega⟩, ⟨by simp, by simp; omega⟩, ⟨by simp, by simp; omega⟩, ⟨by simp, by simp; omega⟩, ⟨by simp, by simp; omega⟩, st, ho⟩, ?_⟩
  rw [line_eq]
  dsimp only
  rw [← e8]
  exact chain8 d0 d1 d2 d3 d4 d5 d6 d7
theorem valid_take (t : TxM) : valid ⟨t.f0, t.f1, t.f2, t.f3, t.f4, t.f5, t.f6, t.ops.take 17⟩ = valid t := by
  by_cases h : t.ops.length ≤ 16
  · rw [List.take_of_length_le (by omega)]
  · have e : rightF ⟨t.f0, t.f1, t.f2, t.f3, t.f4, t.f5, t.f6, t.ops.take 17⟩ ↔ rightF t := Iff.rfl
    have h2 : 16 < (t.ops.take 17).length := by rw [List.length_take]; omega
    have h3 : 16 < t.ops.length := by omega
    unfold valid
    by_cases hf : rightF t
    · rw [if_neg (show ¬ ¬ rightF ⟨t.f0, t.f1, t.f2, t.f3, t.f4, t.f5, t.f6, t.ops.take 17⟩ from fun h => h (e.2 hf)), if_pos h2, if_neg (show ¬ ¬ rightF t from fun h => h hf), if_pos h3]
    · rw [if_pos (fun h => hf (e.1 h)), if_pos hf]
theorem form_parse {t : TxM} (h : Form t) : parseT (line t) = if valid t = 0 then (t, 0) else (tz0, valid t) := by
  unfold parseT
  rw [form_read h]
  dsimp only
  rw [valid_take]
  by_cases hv : valid t = 0
  · have hr := valid_zero.1 hv
    rw [if_pos hv, if_neg (by simp), if_neg (by simpa using hv), List.take_of_length_le (by have := hr.2.1; omega)]
  · rw [if_neg hv, if_neg (by simp), if_pos hv]
theorem right_parse {t : TxM} (h : Right t) : parseT (line t) = (t, 0) := by
  rw [form_parse (form_right h), if_pos (valid_zero.2 h)]
theorem parse_right {l : List UInt8} (h : (parseT l).2 = 0) : Right (parseT l).1 ∧ line (parseT l).1 = l := by
  have h2 : (readT l).2 = true := by
    cases e : (readT l).2 with
    | true => rfl
    | false => unfold parseT at h; rw [if_pos e] at h; simp at h
  obtain ⟨t, ht, rfl⟩ := read_form h2
  rw [form_parse ht] at h ⊢
  by_cases hv : valid t = 0
  · rw [if_pos hv]
    exact ⟨valid_zero.1 hv, rfl⟩
  · rw [if_neg hv] at h
    exact (hv h).elim
theorem parse_none {l : List UInt8} (h : (parseT l).2 ≠ 0) : (parseT l).1 = tz0 := by
  unfold parseT at h ⊢
  split
  · rfl
  · split
    · rfl
    · rename_i h1 h2
      rw [if_neg h1, if_neg h2] at h
      exact (h rfl).elim
end Go.Proofs.YtfhaiklfbnfdlaaDoor
