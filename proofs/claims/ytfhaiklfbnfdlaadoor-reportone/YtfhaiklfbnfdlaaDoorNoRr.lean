/- What is proved: the document's small functions, Word, Unword, Number; conditions: the texts' lengths. -/
import Derived.Test.YtfhaiklfbnfdlaaDoorNoWw
import Derived.Test.YtfhaiklfbnfdlaaDoorNoAo
import Derived.Lib.ConvBytes
namespace Go.Proofs.YtfhaiklfbnfdlaaDoor
open Go.RowKit

theorem small_any (b : UInt8) (w : World) : Calls Tryd.prog 86 #[.int .u8 (b.toNat : Int)] w fun e w' => e = .returned (.bool (sm b)) ∧ w' = w := by
  have E : Hid (sm b = smI (b.toNat : Int)) := rfl
  generalize (b.toNat : Int) = r at *
  by_cases h1 : 97 ≤ r <;> by_cases h2 : r ≤ 122 <;> by_cases h3 : 48 ≤ r <;> by_cases h4 : r ≤ 57 <;>
  · have g1 : (r < 97) = ¬ (97 ≤ r) := by simp
    go_enter Tryd.func86, Tryd.ntmps86
    go_wp2_with fail
    go_ret
    refine ⟨?_, rfl⟩
    rw [E.out]
    simp [smI, h1, h2, h3, h4]
theorem rplain_any (l : List UInt8) (w : World) (hl : l.length ≤ 281474976710656) : Calls Tryd.prog 73 #[tx l] w fun e w' => e = .returned (.bool (pln l)) ∧ w' = w := by
  have HS : Hid (∀ b w, _) := small_any
  go_enter Tryd.func73, Tryd.ntmps73
  go_wp2_with fail
  go_loopw [3] (fun i w' => ∃ k : Nat, i = .int .i64 (k : Int) ∧ k ≤ l.length ∧ w' = w ∧ ∀ i, i < k → ∃ b, l[i]? = some b ∧ sm b = true) (fun i _ => l.length - (intOf i).toNat)
  case atStart => exact ⟨0, rfl, Nat.zero_le _, rfl, fun i hi => absurd hi (by omega)⟩
  case round =>
    obtain ⟨k, rfl, hk, rfl, hal⟩ := hrel
    have HAL : Hid _ := hal
    clear hal
    by_cases hkn : k < l.length
    · have c1 : decide ((k : Int) < (l.length : Int)) = true := decide_eq_true (by omega)
      have hkn2 : (k : Int) < (l.length : Int) := by omega
      obtain ⟨b, hb⟩ : ∃ b, l[k]? = some b := ⟨_, List.getElem?_eq_getElem hkn⟩
      have hix : ∀ w, (Instr.index 9 (tx l) (.int .i64 (k : Int))).run Tryd.prog w = _ := idx_tx hb
      have HB : Hid _ := hb
      clear hb
      go_wp2_with fail
      refine Calls.mono (HS.out _ _) ?_
      rintro e w1 ⟨rfl, e1⟩
      subst e1
      cases hs : sm b
      · go_wp2_with fail
        go_ret
        refine ⟨?_, rfl⟩
        have : l.all sm = false := by
          rw [List.all_eq_false]
          exact ⟨b, List.mem_of_getElem? HB.out, by rw [hs]; simp⟩
        unfold pln
        rw [this]
        rfl
      · go_wp2_with fail
        go_roundw
        case rel =>
          refine ⟨k + 1, by simp, hkn, by trivial, fun i hi => ?_⟩
          by_cases h : i < k
          · exact HAL.out i h
          · obtain rfl : i = k := by omega
            exact ⟨b, HB.out, hs⟩
        case measure => simp only [intOf]; omega
    · have c1 : decide ((k : Int) < (l.length : Int)) = false := decide_eq_false (by omega)
      have hkn2 : ¬ (k : Int) < (l.length : Int) := by omega
      have ha : Hid (l.all sm = true) := all_sm fun i hi => HAL.out i (by omega)
      go_wp2_with fail
      go_ret
      refine ⟨?_, rfl⟩
      unfold pln
      rw [ha.out]
      cases l with
      | nil => rfl
      | cons a r => simp
theorem hex_any {n : Nat} (h : n < 16) (w : World) : Calls Tryd.prog 74 #[.int .i64 (n : Int)] w fun e w' => e = .returned (.int .u8 ((hx n).toNat : Int)) ∧ w' = w := by
  have cases16 : n = 0 ∨ n = 1 ∨ n = 2 ∨ n = 3 ∨ n = 4 ∨ n = 5 ∨ n = 6 ∨ n = 7 ∨ n = 8 ∨ n = 9 ∨ n = 10 ∨ n = 11 ∨ n = 12 ∨ n = 13 ∨ n = 14 ∨ n = 15 := by omega
  clear h
  rcases cases16 with rfl | rfl | rfl | rfl | rfl | rfl | rfl | rfl | rfl | rfl | rfl | rfl | rfl | rfl | rfl | rfl <;>
  · go_enter Tryd.func74, Tryd.ntmps74
    go_wp2_with fail
    go_ret
    exact ⟨rfl, rfl⟩
theorem hv_first : ∀ n : Fin 256, ∀ k : Fin 16, (hx k.val = UInt8.ofNat n.val → (∀ j : Fin 16, j < k → hx j.val ≠ UInt8.ofNat n.val) → hv (UInt8.ofNat n.val) = (k.val : Int)) := by decide +kernel
theorem hv_none : ∀ n : Fin 256, (∀ j : Fin 16, hx j.val ≠ UInt8.ofNat n.val) → hv (UInt8.ofNat n.val) = -1 := by decide +kernel
theorem digit_any (b : UInt8) (w : World) : Calls Tryd.prog 82 #[.int .u8 (b.toNat : Int)] w fun e w' => e = .returned (.int .i64 (hv b)) ∧ w' = w := by
  have HH : Hid (∀ n w, n < 16 → _) := fun n w h => hex_any (n := n) h w
  have H1 : Hid (∀ k, k < 16 → hx k = b → (∀ j, j < k → hx j ≠ b) → hv b = (k : Int)) := fun k hk he hn => by
    have := hv_first ⟨b.toNat, b.toNat_lt⟩ ⟨k, hk⟩
    simp only [UInt8.ofNat_toNat] at this
    exact this he (fun j hj => hn j.val hj)
  have H2 : Hid ((∀ j, j < 16 → hx j ≠ b) → hv b = -1) := fun hn => by
    have := hv_none ⟨b.toNat, b.toNat_lt⟩
    simp only [UInt8.ofNat_toNat] at this
    exact this (fun j => hn j.val j.isLt)
  go_enter Tryd.func82, Tryd.ntmps82
  go_wp2_with fail
  go_loopw [3] (fun i w' => ∃ k : Nat, i = .int .i64 (k : Int) ∧ k ≤ 16 ∧ w' = w ∧ ∀ j, j < k → hx j ≠ b) (fun i _ => 16 - (intOf i).toNat)
  case atStart => exact ⟨0, rfl, Nat.zero_le _, rfl, fun i hi => absurd hi (by omega)⟩
  case round =>
    obtain ⟨k, rfl, hk, rfl, hal⟩ := hrel
    have HAL : Hid _ := hal
    clear hal
    by_cases hkn : k < 16
    · have c1 : decide ((k : Int) < 16) = true := decide_eq_true (by omega)
      have hkn2 : (k : Int) < 16 := by omega
      go_wp2_with fail
      refine Calls.mono (HH.out _ _ hkn) ?_
      rintro e w1 ⟨rfl, e1⟩
      subst e1
      by_cases he : hx k = b
      · have q : (((hx k).toNat : Int) == (b.toNat : Int)) = true := by rw [he]; simp
        have R : Hid _ := H1.out k hkn he HAL.out
        clear he
        go_wp2_with fail
        go_ret
        rw [R.out]
        exact ⟨rfl, rfl⟩
      · have q : (((hx k).toNat : Int) == (b.toNat : Int)) = false := (eq_b _ _).trans (beq_eq_false_iff_ne.2 he)
        have HE : Hid (hx k ≠ b) := he
        clear he
        go_wp2_with fail
        go_roundw
        case rel =>
          refine ⟨k + 1, by simp, hkn, by trivial, fun j hj => ?_⟩
          by_cases h : j < k
          · exact HAL.out j h
          · obtain rfl : j = k := by omega
            exact HE.out
        case measure => simp only [intOf]; omega
    · have c1 : decide ((k : Int) < 16) = false := decide_eq_false (by omega)
      have hkn2 : ¬ (k : Int) < 16 := by omega
      have R : Hid _ := H2.out (fun j hj => HAL.out j (by omega))
      go_wp2_with fail
      go_ret
      rw [R.out]
      exact ⟨rfl, rfl⟩
end Go.Proofs.YtfhaiklfbnfdlaaDoor

namespace Go.Proofs.YtfhaiklfbnfdlaaDoor
open Go.RowKit

def rnV (o : Option Nat) : Value := match o with
  | some n => .tuple #[.int .i64 (n : Int), .bool true]
  | none => .tuple #[.int .i64 0, .bool false]
set_option maxRecDepth 100000 in
theorem rnumber_any21 (l : List UInt8) (w : World) : Calls Tryd.prog 54 #[tx l] w fun e w' => e = .returned (rnV (numb l)) ∧ w' = w := by
  by_cases h0 : l.length = 0
  · have e0 : l = [] := List.eq_nil_of_length_eq_zero h0
    subst e0
    go_enter Tryd.func54, Tryd.ntmps54
    go_wp2_with fail
    go_ret2
    exact ⟨rfl, rfl⟩
  have q0 : ((l.length : Int) == 0) = false := beq_eq_false_iff_ne.2 (by omega)
  have hne : ¬ l = [] := fun e => h0 (by rw [e]; rfl)
  by_cases h15 : 15 < l.length
  · have q15 : (15 : Int) < (l.length : Int) := by omega
    have R : Hid (numb l = none) := by show _ = _; unfold numb; rw [if_pos (.inr (.inl h15))]
    go_enter Tryd.func54, Tryd.ntmps54
    go_wp2_with fail
    go_ret2
    rw [R.out]
    exact ⟨rfl, rfl⟩
  have q15 : ¬ (15 : Int) < (l.length : Int) := by omega
  obtain ⟨b0, hb0⟩ : ∃ b, l[0]? = some b := ⟨_, List.getElem?_eq_getElem (by omega)⟩
  have hix0 : ∀ w, (Instr.index 9 (tx l) (.int .i64 0)).run Tryd.prog w = _ := idx_tx hb0
  by_cases hz : b0 = 48 ∧ 1 < l.length
  · have q48 : ((b0.toNat : Int) == 48) = true := by rw [hz.1]; rfl
    have q1 : (1 : Int) < (l.length : Int) := by omega
    have R : Hid (numb l = none) := by show _ = _; unfold numb; rw [if_pos (.inr (.inr (.inr ⟨by rw [List.head?_eq_getElem?, hb0, hz.1], hz.2⟩)))]
    clear hz hb0
    go_enter Tryd.func54, Tryd.ntmps54
    go_wp2_with fail
    go_ret2
    rw [R.out]
    exact ⟨rfl, rfl⟩
  have HNZ : Hid (¬ (1 : Int) < (l.length : Int) ∨ ((1 : Int) < (l.length : Int) ∧ ((b0.toNat : Int) == 48) = false)) := by
    by_cases h : (1 : Int) < (l.length : Int)
    · exact .inr ⟨h, (eq_b b0 48).trans (beq_eq_false_iff_ne.2 (fun e => hz ⟨e, by omega⟩))⟩
    · exact .inl h
  have RY : Hid (l.all dg = true → numb l = some (val 0 l)) := fun ha => by
    unfold numb
    rw [if_neg]
    rintro (h | h | h | ⟨h, h'⟩)
    · exact h0 h
    · exact h15 h
    · rw [ha] at h; cases h
    · rw [List.head?_eq_getElem?, hb0] at h
      cases h
      exact hz ⟨rfl, h'⟩
  have RN : Hid (∀ b ∈ l, dg b = false → numb l = none) := fun b hb hd => by
    unfold numb
    rw [if_pos (.inr (.inr (.inl (List.all_eq_false.2 ⟨b, hb, by rw [hd]; simp⟩))))]
  have FIN : Hid (∀ k, k ≤ l.length → (∀ i, i < k → ∃ b, l[i]? = some b ∧ dg b = true) → val 0 (l.take k) < 1000000000000000) := fun k hk hd => by
    have h1 := val_le (l.take k) 0 (fun b hb => by
      obtain ⟨i, hi, e⟩ := List.getElem_of_mem hb
      rw [List.length_take] at hi
      obtain ⟨b', hb', hd'⟩ := hd i (by omega)
      rw [List.getElem_take] at e
      rw [List.getElem?_eq_getElem (by omega)] at hb'
      cases hb'
      rw [e] at hd'
      unfold dg at hd'
      rw [Bool.and_eq_true, decide_eq_true_eq, decide_eq_true_eq] at hd'
      exact hd'.2)
    have h2 : (l.take k).length ≤ 15 := by rw [List.length_take]; omega
    have h3 : 10 ^ (l.take k).length ≤ 10 ^ 15 := Nat.pow_le_pow_right (by omega) h2
    omega
  clear hz hb0
  go_enter Tryd.func54, Tryd.ntmps54
  rcases HNZ.out with q1 | ⟨q1, q48⟩ <;>
  · clear HNZ
    go_wp2_with fail
    clear hix0 q1
    go_loopw [4, 5] (fun v i w' => ∃ k : Nat, i = .int .i64 (k : Int) ∧ k ≤ l.length ∧ w' = w ∧ v = .int .i64 (val 0 (l.take k) : Int) ∧ ∀ i, i < k → ∃ b, l[i]? = some b ∧ dg b = true) (fun _ i _ => l.length - (intOf i).toNat)
    case atStart => exact ⟨0, rfl, Nat.zero_le _, rfl, rfl, fun i hi => absurd hi (by omega)⟩
    case round =>
      obtain ⟨k, rfl, hk, rfl, rfl, hal⟩ := hrel
      have HAL : Hid _ := hal
      clear hal
      by_cases hkn : k < l.length
      · have c1 : decide ((k : Int) < (l.length : Int)) = true := decide_eq_true (by omega)
        have hkn2 : (k : Int) < (l.length : Int) := by omega
        obtain ⟨b, hb⟩ : ∃ b, l[k]? = some b := ⟨_, List.getElem?_eq_getElem hkn⟩
        have hix : ∀ w, (Instr.index 9 (tx l) (.int .i64 (k : Int))).run Tryd.prog w = _ := idx_tx hb
        have HB : Hid _ := hb
        clear hb
        by_cases hd : dg b = true
        · have hsub := sub_dig hd
          have hv1 := FIN.out k hk HAL.out
          have HV : Hid (val 0 (l.take (k + 1)) = 10 * val 0 (l.take k) + (b.toNat - 48)) := by show _ = _; rw [take_snoc HB.out, val_snoc]
          have hb9 : b.toNat - 48 < 256 := by have := b.toNat_lt; omega
          have hd2 := hd
          unfold dg at hd2
          rw [Bool.and_eq_true, decide_eq_true_eq, decide_eq_true_eq] at hd2
          have h48 : ¬ (b.toNat : Int) < 48 := by omega
          have h57 : ¬ (57 : Int) < (b.toNat : Int) := by omega
          clear hd2
          have HD : Hid (dg b = true) := hd
          clear hd
          generalize val 0 (l.take k) = V at HV hv1
          generalize hdd : b.toNat - 48 = dd at HV hsub hb9
          have h10 : wrap64 (10 * (V : Int)) = 10 * (V : Int) := by unfold wrap64; omega
          have h11 : wrap64 (10 * (V : Int) + (dd : Int)) = 10 * (V : Int) + (dd : Int) := by unfold wrap64; omega
          have h12 : wrap64 (dd : Int) = (dd : Int) := by unfold wrap64; omega
          clear hdd
          go_wp2_with fail
          go_roundw
          case rel =>
            refine ⟨k + 1, by simp, hkn, by trivial, by rw [HV.out]; simp, fun i hi => ?_⟩
            by_cases h : i < k
            · exact HAL.out i h
            · obtain rfl : i = k := by omega
              exact ⟨b, HB.out, HD.out⟩
          case measure => simp only [intOf]; omega
        · have R : Hid _ := RN.out b (List.mem_of_getElem? HB.out) (by simpa using hd)
          have hor : (b.toNat : Int) < 48 ∨ (¬ (b.toNat : Int) < 48 ∧ (57 : Int) < (b.toNat : Int)) := by
            by_cases h : (b.toNat : Int) < 48
            · exact .inl h
            · refine .inr ⟨h, ?_⟩
              by_cases h' : (57 : Int) < (b.toNat : Int)
              · exact h'
              · exact absurd (by unfold dg; rw [decide_eq_true (by omega), decide_eq_true (by omega)]; rfl) hd
          clear hd
          rcases hor with h48 | ⟨h48, h57⟩
          · go_wp2_with fail
            go_ret2
            rw [R.out]
            exact ⟨rfl, rfl⟩
          · go_wp2_with fail
            go_ret2
            rw [R.out]
            exact ⟨rfl, rfl⟩
      · have c1 : decide ((k : Int) < (l.length : Int)) = false := decide_eq_false (by omega)
        have hkn2 : ¬ (k : Int) < (l.length : Int) := by omega
        have E : Hid (l.take k = l) := List.take_of_length_le (by omega)
        have R : Hid _ := RY.out (List.all_eq_true.2 fun b hb => by
          obtain ⟨i, hi, e⟩ := List.getElem_of_mem hb
          obtain ⟨b', hb', hd'⟩ := HAL.out i (by omega)
          rw [List.getElem?_eq_getElem hi] at hb'
          cases hb'
          rw [← e]
          exact hd')
        go_wp2_with fail
        go_ret2
        rw [R.out, E.out]
        exact ⟨rfl, rfl⟩
end Go.Proofs.YtfhaiklfbnfdlaaDoor

namespace Go.Proofs.YtfhaiklfbnfdlaaDoor
open Go.RowKit

theorem string_bytes (w : World) (s : ByteArray) : ∃ w' c, (convert 9 32 (.string s)).run Tryd.prog w = .ok (.slice (some ⟨w.heap.size, 0, none⟩) s.size c) w' ∧ BytesAt w' (some ⟨w.heap.size, 0, none⟩) (nums s) ∧ Kept w w' := by
  have hr := Lib.run_convert_string_bytes (P := Tryd.prog) w 9 32 5 s Tryd.underlying9 Tryd.underlying32 Tryd.underlying5
  refine ⟨_, _, hr, fun i x hx => ?_, ⟨rfl, rfl, rfl, by rw [Lib.bytesWorld_size]; omega, fun k hk _ => Lib.bytesWorld_at_old w _ _ k hk⟩⟩
  have hi : i < s.size := by
    have h9 := (List.getElem?_eq_some_iff.1 hx).1
    simpa [nums] using h9
  refine ⟨w.heap.size, 0, rfl, by rw [Lib.bytesWorld_size]; omega, ?_⟩
  rw [Nat.zero_add, Lib.bytesWorld_cell w _ _ i hi]
  unfold nums at hx
  rw [List.getElem?_map] at hx
  obtain ⟨b, hb, rfl⟩ := Option.map_eq_some_iff.1 hx
  rw [List.getD_eq_getElem?_getD, hb]
  rfl
/-- A row of bytes as an answer. -/
def RowB (w : World) (l : List UInt8) (v : Value) (w' : World) : Prop := ∃ b c, v = .slice (some ⟨b, 0, none⟩) l.length c ∧ BytesAt w' (some ⟨b, 0, none⟩) (nu l) ∧ w.heap.size ≤ b ∧ Kept w w'
theorem RowB.own {w w' : World} {v : Value} {l : List UInt8} (h : OwnB w.heap.size w' v (nu l)) (h0 : l ≠ []) (k : Kept w w') : RowB w l v w' := by
  rcases h.2 with ⟨rfl, hn⟩ | ⟨g, cap, cur, e, hb, r⟩
  · rw [nu_len] at hn
    exact absurd (List.eq_nil_of_length_eq_zero hn) h0
  · obtain ⟨a, cap', e', hby, -⟩ := OwnB.bytes h
    rw [e] at e'
    simp only [Value.slice.injEq] at e'
    obtain ⟨rfl, -, rfl⟩ := e'
    exact ⟨g, cap, by rw [e, nu_len], hby, hb, k⟩
set_option maxRecDepth 100000 in
set_option maxHeartbeats 1600000 in
theorem rword_any (l : List UInt8) (w : World) (hl : l.length ≤ 70368744177000) : Calls Tryd.prog 64 #[tx l] w fun e w' => ∃ v, e = .returned v ∧ RowB w (wd l) v w' := by
  have HP : Hid (∀ w, _) := fun w => rplain_any l w (by omega)
  by_cases hp : pln l = true
  · have R : Hid (wd l = l) := by show _ = _; unfold wd; rw [if_pos hp]
    obtain ⟨W1, c1, hcv, ho, hk⟩ := string_bytes w ⟨l.toArray⟩
    rw [sz] at hcv
    have HO : Hid _ := And.intro ho hk
    clear ho hk
    go_enter Tryd.func64, Tryd.ntmps64
    go_wp2_with fail
    refine Calls.mono (HP.out _) ?_
    rintro e w1 ⟨rfl, e1⟩
    subst e1
    rw [hp]
    go_wp2_with fail
    go_ret
    rw [R.out]
    exact ⟨_, rfl, w1.heap.size, c1, rfl, HO.out.1, Nat.le_refl _, HO.out.2⟩
  have hp' : pln l = false := by simpa using hp
  have R : Hid (wd l = 35 :: hexs l) := by show _ = _; unfold wd; rw [if_neg hp]
  clear hp
  have HH : Hid (∀ n w, n < 16 → _) := fun n w h => hex_any (n := n) h w
  have O0 : Hid (OwnB w.heap.size (w.alloc (.cells #[.int .u8 35] 5)) (.slice (some ⟨w.heap.size, 0, none⟩) 1 1) (nu [35])) := ⟨rfl, .inr ⟨w.heap.size, 1, _, rfl, Nat.le_refl _, heap_new w _, Nat.le_refl _, by decide, rfl, rfl⟩⟩
  go_enter Tryd.func64, Tryd.ntmps64
  go_wp2_with fail
  refine Calls.mono (HP.out _) ?_
  rintro e w1 ⟨rfl, e1⟩
  subst e1
  rw [hp']
  clear HP
  go_wp2_with fail
  go_loopw [3, 4] (fun v i wr => ∃ k : Nat, i = .int .i64 (k : Int) ∧ k ≤ l.length ∧ OwnB w1.heap.size wr v (nu (35 :: hexs (l.take k))) ∧ Kept w1 wr) (fun _ i _ => l.length - (intOf i).toNat)
  case atStart => exact ⟨0, rfl, Nat.zero_le _, O0.out, (Same.refl _ _).alloc _⟩
  case round =>
    obtain ⟨k, rfl, hk, how, hkp⟩ := hrel
    have HOW : Hid _ := how
    have HKP : Hid _ := hkp
    clear how hkp O0
    rename World => W
    by_cases hkn : k < l.length
    · have c1 : decide ((k : Int) < (l.length : Int)) = true := decide_eq_true (by omega)
      have hkn2 : (k : Int) < (l.length : Int) := by omega
      obtain ⟨b, hb⟩ : ∃ b, l[k]? = some b := ⟨_, List.getElem?_eq_getElem hkn⟩
      have hix : ∀ w, (Instr.index 9 (tx l) (.int .i64 (k : Int))).run Tryd.prog w = _ := idx_tx hb
      have HT : Hid _ := take_snoc hb
      have hB := b.toNat_lt
      clear hb
      have HLL : Hid ((nu (35 :: hexs (l.take k))).length + 8 ≤ 140737488355328) := by show _ ≤ _; rw [nu_len, List.length_cons, hexs_len, List.length_take]; omega
      have HZ : Hid (w1.heap.size ≤ W.heap.size) := HKP.out.size
      obtain ⟨n1, e1⟩ : ∃ n1, n1 = b.toNat / 16 := ⟨_, rfl⟩
      obtain ⟨n2, e2⟩ : ∃ n2, n2 = b.toNat % 16 := ⟨_, rfl⟩
      have hq1 : (b.toNat : Int) / 16 = (n1 : Int) := by omega
      have hq2 : (b.toNat : Int) % 16 = (n2 : Int) := by omega
      have HN : Hid (n1 < 16 ∧ n2 < 16) := ⟨by omega, by omega⟩
      have HE : Hid (n1 = b.toNat / 16 ∧ n2 = b.toNat % 16) := ⟨e1, e2⟩
      clear e1 e2
      go_wp2_with fail
      refine Calls.mono (HH.out _ _ HN.out.1) ?_
      rintro e w2 ⟨rfl, e2⟩
      subst e2
      go_wp2_with (at_builtin; refine wpList_app rfl (.tmp 16) (.tmp 23) 32 32 rfl _ (.slice (some ⟨_, 0, none⟩) 1 1) rfl rfl _ (app_one ((hx n1).toNat : Int) HOW.out (by have := HLL.out; omega) HZ.out) ?_; rintro v3 w3 ⟨o3, k3⟩; have O3 : Hid _ := o3; have K3 : Hid (Same (fun i => w1.heap.size ≤ i) w2 w3) := k3; clear o3 k3)
      refine Calls.mono (HH.out _ _ HN.out.2) ?_
      rintro e w4 ⟨rfl, e4⟩
      subst e4
      go_wp2_with (at_builtin; refine wpList_app rfl (.tmp 25) (.tmp 32) 32 32 rfl _ (.slice (some ⟨_, 0, none⟩) 1 1) rfl rfl _ (app_one ((hx n2).toNat : Int) O3.out (by rw [List.length_append]; have := HLL.out; simp; omega) (Nat.le_trans HZ.out K3.out.size)) ?_; rintro v5 w5 ⟨o5, k5⟩; have O5 : Hid _ := o5; have K5 : Hid (Kept w1 w5) := Same.trans HKP.out (K3.out.trans' k5) (fun i hi e => by omega); clear o5 k5)
      go_roundw
      case rel =>
        refine ⟨k + 1, by simp, hkn, ?_, K5.out⟩
        rw [HT.out, hexs_snoc, ← List.cons_append, nu_app]
        have h9 := O5.out
        rw [List.append_assoc, HE.out.1, HE.out.2] at h9
        exact h9
      case measure => simp only [intOf]; omega
    · have c1 : decide ((k : Int) < (l.length : Int)) = false := decide_eq_false (by omega)
      have hkn2 : ¬ (k : Int) < (l.length : Int) := by omega
      have E : Hid (l.take k = l) := List.take_of_length_le (by omega)
      go_wp2_with fail
      go_ret
      rw [R.out]
      have h9 := HOW.out
      rw [E.out] at h9
      exact ⟨_, rfl, RowB.own h9 (by simp) HKP.out⟩
end Go.Proofs.YtfhaiklfbnfdlaaDoor

namespace Go.Proofs.YtfhaiklfbnfdlaaDoor
open Go.RowKit

def ruV (o : Option (List UInt8)) : Value := match o with
  | some s => .tuple #[tx s, .bool true]
  | none => .tuple #[tx [], .bool false]
theorem uwd_even {l : List UInt8} (hp : ¬ pln l = true) (h : ¬ l.length % 2 = 1) : uwd l = none := by
  unfold uwd
  rw [if_neg hp]
  cases l with
  | nil => rfl
  | cons a r =>
    dsimp only
    split
    · rw [unhx_odd r (by simp at h; omega)]
    · rfl
set_option maxRecDepth 100000 in
set_option maxHeartbeats 1600000 in
theorem runword_any (l : List UInt8) (w : World) (hl : l.length ≤ 140737488351232) : Calls Tryd.prog 69 #[tx l] w fun e w' => e = .returned (ruV (uwd l)) ∧ Kept w w' := by
  have HP : Hid (∀ w, _) := fun w => rplain_any l w (by omega)
  by_cases hp : pln l = true
  · have R : Hid (uwd l = some l) := by show _ = _; unfold uwd; rw [if_pos hp]
    go_enter Tryd.func69, Tryd.ntmps69
    go_wp2_with fail
    refine Calls.mono (HP.out _) ?_
    rintro e w1 ⟨rfl, e1⟩
    subst e1
    rw [hp]
    go_wp2_with fail
    go_ret2
    rw [R.out]
    exact ⟨rfl, Same.refl _ _⟩
  have hp' : pln l = false := by simpa using hp
  by_cases ho : ¬ l.length % 2 = 1
  · have R : Hid (uwd l = none) := uwd_even hp ho
    have q : (((l.length : Int)) % 2 != 1) = true := by simp; omega
    clear hp ho
    go_enter Tryd.func69, Tryd.ntmps69
    go_wp2_with fail
    refine Calls.mono (HP.out _) ?_
    rintro e w1 ⟨rfl, e1⟩
    subst e1
    rw [hp']
    go_wp2_with fail
    go_ret2
    rw [R.out]
    exact ⟨rfl, Same.refl _ _⟩
  replace ho : l.length % 2 = 1 := Decidable.not_not.1 ho
  have q : (((l.length : Int)) % 2 != 1) = false := by simp; omega
  rcases l with _ | ⟨a, r⟩
  · simp at ho
  have hix0 : ∀ w, (Instr.index 9 (tx (a :: r)) (.int .i64 0)).run Tryd.prog w = _ := idx_tx (i := 0) rfl
  by_cases ha : ¬ a = 35
  · have q35 : ((a.toNat : Int) != 35) = true := by
      have := (eq_b a 35).trans (beq_eq_false_iff_ne.2 ha)
      rw [bne, show (35 : Int) = ((35 : UInt8).toNat : Int) from rfl, this]
      rfl
    have q35' : ((a.toNat : Int) == 35) = false := (eq_b a 35).trans (beq_eq_false_iff_ne.2 ha)
    have R : Hid (uwd (a :: r) = none) := by
      show _ = _
      unfold uwd
      rw [if_neg hp]
      dsimp only
      rw [if_neg ha]
    generalize a :: r = L at *
    clear hp ho ha
    go_enter Tryd.func69, Tryd.ntmps69
    go_wp2_with fail
    refine Calls.mono (HP.out _) ?_
    rintro e w1 ⟨rfl, e1⟩
    subst e1
    rw [hp']
    go_wp2_with fail
    go_ret2
    rw [R.out]
    exact ⟨rfl, Same.refl _ _⟩
  replace ha : a = 35 := Decidable.not_not.1 ha
  have q35 : ((a.toNat : Int) != 35) = false := by rw [ha]; rfl
  have q35' : ((a.toNat : Int) == 35) = true := by rw [ha]; rfl
  have RR : Hid (∀ o, unhx r = o → uwd (a :: r) = match o with | some s => if pln s = true then none else some s | none => none) := fun o eo => by
    unfold uwd
    rw [if_neg hp]
    dsimp only
    rw [if_pos ha, eo]
    cases o <;> rfl
  have HPA : Hid (∀ (s : List UInt8) w, s.length ≤ 281474976710656 → _) := fun s w h => rplain_any s w h
  have HD : Hid (∀ b w, _) := digit_any
  obtain ⟨L, eL⟩ : ∃ L, L = a :: r := ⟨_, rfl⟩
  have HN : Hid (L.length = r.length + 1 ∧ r.length % 2 = 0) := ⟨by rw [eL]; rfl, by simp at ho; omega⟩
  have HIX : Hid (∀ i : Nat, L[i + 1]? = r[i]?) := fun i => by rw [eL]; simp
  rw [← eL] at HP hp' hl q hix0 RR ⊢
  clear eL hp ho ha
  go_enter Tryd.func69, Tryd.ntmps69
  go_wp2_with fail
  refine Calls.mono (HP.out _) ?_
  rintro e w1 ⟨rfl, e1⟩
  subst e1
  rw [hp']
  go_wp2_with fail
  clear HP hix0 q q35 q35' hp'
  go_loopw [4, 5] (fun v i wr => ∃ (k : Nat) (acc : List UInt8), i = .int .i64 ((2 * k + 1 : Nat) : Int) ∧ 2 * k ≤ r.length ∧ acc.length = k ∧ OwnB w1.heap.size wr v (nu acc) ∧ unhx r = (unhx (r.drop (2 * k))).map (acc ++ ·) ∧ Kept w1 wr) (fun _ i _ => L.length - (intOf i).toNat)
  case atStart => exact ⟨0, [], rfl, Nat.zero_le _, rfl, OwnB.nil _ _, by simp, Same.refl _ _⟩
  case round =>
    obtain ⟨k, acc, rfl, hk, hac, how, hun, hkp⟩ := hrel
    have HOW : Hid _ := how
    have HUN : Hid _ := hun
    have HKP : Hid _ := hkp
    have HAC : Hid _ := hac
    have HK : Hid _ := hk
    clear how hun hkp hac hk
    rename World => W
    by_cases hkn : 2 * k + 1 < L.length
    · have c1 : decide (((2 * k + 1 : Nat) : Int) < (L.length : Int)) = true := decide_eq_true (by omega)
      have hkn2 : ((2 * k + 1 : Nat) : Int) < (L.length : Int) := by omega
      obtain ⟨a, ha⟩ : ∃ b, r[2 * k]? = some b := ⟨_, List.getElem?_eq_getElem (by have := HN.out; omega)⟩
      obtain ⟨b, hb⟩ : ∃ b, r[2 * k + 1]? = some b := ⟨_, List.getElem?_eq_getElem (by have := HN.out; omega)⟩
      have hix : ∀ w, (Instr.index 9 (tx L) (.int .i64 ((2 * k + 1 : Nat) : Int))).run Tryd.prog w = _ := idx_tx ((HIX.out _).trans ha)
      have hix1 : ∀ w, (Instr.index 9 (tx L) (.int .i64 (((2 * k + 1 : Nat) : Int) + 1))).run Tryd.prog w = _ := idx_tx ((HIX.out _).trans hb)
      have HDR : Hid (r.drop (2 * k) = a :: b :: r.drop (2 * (k + 1))) := drop_two ha hb
      clear ha hb
      have HK1 : Hid (2 * (k + 1) ≤ r.length ∧ k ≤ 140737488351232) := by have := HN.out; exact ⟨by omega, by omega⟩
      obtain ⟨kk, ekk⟩ : ∃ kk, kk = 2 * k + 1 := ⟨_, rfl⟩
      have HKF : Hid (((kk : Nat) : Int) + 2 = ((2 * (k + 1) + 1 : Nat) : Int)) := by show _ = _; omega
      rw [← ekk] at hkn c1 hkn2 hix hix1 ⊢
      have hw1 : wrap64 ((kk : Int) + 1) = (kk : Int) + 1 := by unfold wrap64; omega
      have hw2 : wrap64 ((kk : Int) + 2) = (kk : Int) + 2 := by unfold wrap64; omega
      clear ekk
      go_wp2_with fail
      refine Calls.mono (HD.out _ _) ?_
      rintro e w2 ⟨rfl, e2⟩
      subst e2
      go_wp2_with fail
      refine Calls.mono (HD.out _ _) ?_
      rintro e w2 ⟨rfl, e2⟩
      subst e2
      rcases hv_or a with ea | ⟨ea0, ea1, -⟩
      · have R : Hid (unhx r = none) := by show _ = _; rw [HUN.out, HDR.out]; unfold unhx; rw [if_pos (.inl (by omega))]; rfl
        have R2 : Hid _ := RR.out _ R.out
        rw [ea]
        go_wp2_with fail
        go_ret2
        rw [R2.out]
        exact ⟨rfl, HKP.out⟩
      · have ea2 : ¬ hv a < 0 := by omega
        rcases hv_or b with eb | ⟨eb0, eb1, -⟩
        · have R : Hid (unhx r = none) := by show _ = _; rw [HUN.out, HDR.out]; unfold unhx; rw [if_pos (.inr (by omega))]; rfl
          have R2 : Hid _ := RR.out _ R.out
          rw [eb]
          go_wp2_with fail
          go_ret2
          rw [R2.out]
          exact ⟨rfl, HKP.out⟩
        · obtain ⟨x, hx⟩ : ∃ x : Nat, hv a = (x : Int) := ⟨(hv a).toNat, by omega⟩
          obtain ⟨y, hy⟩ : ∃ y : Nat, hv b = (y : Int) := ⟨(hv b).toNat, by omega⟩
          have HB : Hid (unhx (r.drop (2 * k)) = (unhx (r.drop (2 * (k + 1)))).map (UInt8.ofNat (16 * x + y) :: ·)) := by
            show _ = _
            rw [HDR.out]
            conv => lhs; unfold unhx
            rw [if_neg (by omega), hx, hy]
            rfl
          have hx16 : x < 16 := by omega
          have hy16 : y < 16 := by omega
          rw [hx, hy]
          have hx0 : ¬ (x : Int) < 0 := by omega
          have hy0 : ¬ (y : Int) < 0 := by omega
          have dx0 : decide ((x : Int) < 0) = false := decide_eq_false hx0
          have dy0 : decide ((y : Int) < 0) = false := decide_eq_false hy0
          clear hx hy ea0 ea1 ea2 eb0 eb1
          have m1 : wrap64 (16 * (x : Int)) = 16 * (x : Int) := by unfold wrap64; omega
          have m2 : wrap64 (16 * (x : Int) + (y : Int)) = 16 * (x : Int) + (y : Int) := by unfold wrap64; omega
          have m3 : IntKind.u8.wrap (16 * (x : Int) + (y : Int)) = 16 * (x : Int) + (y : Int) := by simp [IntKind.wrap, IntKind.signed, IntKind.bits]; omega
          have HAP : Hid _ := app_one (16 * (x : Int) + (y : Int)) HOW.out (by rw [nu_len, HAC.out]; have := HK1.out.2; omega) HKP.out.size
          go_wp2_with (at_builtin; refine wpList_app rfl (.tmp 41) (.tmp 47) 32 32 rfl _ _ rfl rfl _ HAP.out ?_; rintro v5 w5 ⟨r5, s5⟩)
          refine ⟨⟨k + 1, acc ++ [UInt8.ofNat (16 * x + y)], by rw [HKF.out], HK1.out.1, by simp [HAC.out], ?_, ?_, ?_⟩, ?_⟩
          · rw [nu_app, nu_byte (by omega)]
            have h9 := r5
            rw [show 16 * (x : Int) + (y : Int) = ((16 * x + y : Nat) : Int) by omega] at h9
            exact h9
          · rw [HUN.out, HB.out, Option.map_map]
            congr 1
            funext z
            simp
          · exact Same.trans HKP.out s5 (fun i hi e => by omega)
          · simp only [intOf]
            omega
    · have c1 : decide (((2 * k + 1 : Nat) : Int) < (L.length : Int)) = false := decide_eq_false (by omega)
      have hkn2 : ¬ ((2 * k + 1 : Nat) : Int) < (L.length : Int) := by omega
      have hst := own_str HOW.out
      have R : Hid (unhx r = some acc) := by
        show _ = _
        rw [HUN.out, List.drop_of_length_le (by have := HN.out; omega)]
        simp [unhx]
      have R2 : Hid _ := RR.out _ R.out
      have HAL : Hid (acc.length ≤ 281474976710656) := by show _ ≤ _; have := HAC.out; have := HK.out; have := HN.out; omega
      generalize 2 * k + 1 = kk at hkn c1 hkn2 ⊢
      go_wp2_with fail
      refine Calls.mono (HPA.out _ _ HAL.out) ?_
      rintro e w2 ⟨rfl, e2⟩
      subst e2
      cases hs : pln acc
      · go_wp2_with fail
        go_ret2
        rw [R2.out]
        simp only [hs]
        exact ⟨rfl, HKP.out⟩
      · go_wp2_with fail
        go_ret2
        rw [R2.out]
        simp only [hs]
        exact ⟨rfl, HKP.out⟩
end Go.Proofs.YtfhaiklfbnfdlaaDoor
