/- What is proved: the document's small functions, Word, Unword, Number; conditions: the texts' lengths. -/
import Derived.Test.YtolooejcgdknnaaDoorNoWw
import Derived.Test.YtolooejcgdknnaaDoorNoAo
import Derived.Lib.ConvBytes
namespace Go.Proofs.YtolooejcgdknnaaDoor
open Go.RowKit

theorem hv_first : ∀ n : Fin 256, ∀ k : Fin 16, (hx k.val = UInt8.ofNat n.val → (∀ j : Fin 16, j < k → hx j.val ≠ UInt8.ofNat n.val) → hv (UInt8.ofNat n.val) = (k.val : Int)) := by decide +kernel
theorem hv_none : ∀ n : Fin 256, (∀ j : Fin 16, hx j.val ≠ UInt8.ofNat n.val) → hv (UInt8.ofNat n.val) = -1 := by decide +kernel
end Go.Proofs.YtolooejcgdknnaaDoor

namespace Go.Proofs.YtolooejcgdknnaaDoor
open Go.RowKit

def rnV (o : Option Nat) : Value := match o with
  | some n => .tuple #[.int .i64 (n : Int), .bool true]
  | none => .tuple #[.int .i64 0, .bool false]
set_option maxRecDepth 100000 in
theorem rnumber_any21 (l : List UInt8) (w : World) : Calls Tryd.prog 29 #[tx l] w fun e w' => e = .returned (rnV (numb l)) ∧ w' = w := by
  by_cases h0 : l.length = 0
  · have e0 : l = [] := List.eq_nil_of_length_eq_zero h0
    subst e0
    go_enter Tryd.func29, Tryd.ntmps29
    go_wp2_with fail
    go_ret2
    exact ⟨rfl, rfl⟩
  have q0 : ((l.length : Int) == 0) = false := beq_eq_false_iff_ne.2 (by omega)
  have hne : ¬ l = [] := fun e => h0 (by rw [e]; rfl)
  by_cases h15 : 15 < l.length
  · have q15 : (15 : Int) < (l.length : Int) := by omega
    have R : Hid (numb l = none) := by show _ = _; unfold numb; rw [if_pos (.inr (.inl h15))]
    go_enter Tryd.func29, Tryd.ntmps29
    go_wp2_with fail
    go_ret2
    rw [R.out]
    exact ⟨rfl, rfl⟩
  have q15 : ¬ (15 : Int) < (l.length : Int) := by omega
  obtain ⟨b0, hb0⟩ : ∃ b, l[0]? = some b := ⟨_, List.getElem?_eq_getElem (by omega)⟩
  have hix0 : ∀ w, (Instr.index 9 (tx l) (.int .i64 0)).run Tryd.prog w = _ := idx_tx hb0
  by_cases hz : b0 = 48 ∧ 1 < l.length
  · have q48 : ((b0.toNat : Int) == 48) = true := by rw [hz.1]; rfl
    have q1 : (1 : Int) < (l.length : Int) := by omega
    have R : Hid (numb l = none) := by show _ = _; unfold numb; rw [if_pos (.inr (.inr (.inr ⟨by rw [List.head?_eq_getElem?, hb0, hz.1], hz.2⟩)))]
    clear hz hb0
    go_enter Tryd.func29, Tryd.ntmps29
    go_wp2_with fail
    go_ret2
    rw [R.out]
    exact ⟨rfl, rfl⟩
  have HNZ : Hid (¬ (1 : Int) < (l.length : Int) ∨ ((1 : Int) < (l.length : Int) ∧ ((b0.toNat : Int) == 48) = false)) := by
    by_cases h : (1 : Int) < (l.length : Int)
    · exact .inr ⟨h, (eq_b b0 48).trans (beq_eq_false_iff_ne.2 (fun e => hz ⟨e, by omega⟩))⟩
    · exact .inl h
  have RY : Hid (l.all dg = true → numb l = some (val 0 l)) := fun ha => by
    unfold numb
    rw [if_neg]
    rintro (h | h | h | ⟨h, h'⟩)
    · exact h0 h
    · exact h15 h
    · rw [ha] at h; cases h
    · rw [List.head?_eq_getElem?, hb0] at h
      cases h
      exact hz ⟨rfl, h'⟩
  have RN : Hid (∀ b ∈ l, dg b = false → numb l = none) := fun b hb hd => by
    unfold numb
    rw [if_pos (.inr (.inr (.inl (List.all_eq_false.2 ⟨b, hb, by rw [hd]; simp⟩))))]
  have FIN : Hid (∀ k, k ≤ l.length → (∀ i, i < k → ∃ b, l[i]? = some b ∧ dg b = true) → val 0 (l.take k) < 1000000000000000) := fun k hk hd => by
    have h1 := val_le (l.take k) 0 (fun b hb => by
      obtain ⟨i, hi, e⟩ := List.getElem_of_mem hb
      rw [List.length_take] at hi
      obtain ⟨b', hb', hd'⟩ := hd i (by omega)
      rw [List.getElem_take] at e
      rw [List.getElem?_eq_getElem (by omega)] at hb'
      cases hb'
      rw [e] at hd'
      unfold dg at hd'
      rw [Bool.and_eq_true, decide_eq_true_eq, decide_eq_true_eq] at hd'
      exact hd'.2)
    have h2 : (l.take k).length ≤ 15 := by rw [List.length_take]; omega
    have h3 : 10 ^ (l.take k).length ≤ 10 ^ 15 := Nat.pow_le_pow_right (by omega) h2
    omega
  clear hz hb0
  go_enter Tryd.func29, Tryd.ntmps29
  rcases HNZ.out with q1 | ⟨q1, q48⟩ <;>
  · clear HNZ
    go_wp2_with fail
    clear hix0 q1
    go_loopw [4, 5] (fun v i w' => ∃ k : Nat, i = .int .i64 (k : Int) ∧ k ≤ l.length ∧ w' = w ∧ v = .int .i64 (val 0 (l.take k) : Int) ∧ ∀ i, i < k → ∃ b, l[i]? = some b ∧ dg b = true) (fun _ i _ => l.length - (intOf i).toNat)
    case atStart => exact ⟨0, rfl, Nat.zero_le _, rfl, rfl, fun i hi => absurd hi (by omega)⟩
    case round =>
      obtain ⟨k, rfl, hk, rfl, rfl, hal⟩ := hrel
      have HAL : Hid _ := hal
      clear hal
      by_cases hkn : k < l.length
      · have c1 : decide ((k : Int) < (l.length : Int)) = true := decide_eq_true (by omega)
        have hkn2 : (k : Int) < (l.length : Int) := by omega
        obtain ⟨b, hb⟩ : ∃ b, l[k]? = some b := ⟨_, List.getElem?_eq_getElem hkn⟩
        have hix : ∀ w, (Instr.index 9 (tx l) (.int .i64 (k : Int))).run Tryd.prog w = _ := idx_tx hb
        have HB : Hid _ := hb
        clear hb
        by_cases hd : dg b = true
        · have hsub := sub_dig hd
          have hv1 := FIN.out k hk HAL.out
          have HV : Hid (val 0 (l.take (k + 1)) = 10 * val 0 (l.take k) + (b.toNat - 48)) := by show _ = _; rw [take_snoc HB.out, val_snoc]
          have hb9 : b.toNat - 48 < 256 := by have := b.toNat_lt; omega
          have hd2 := hd
          unfold dg at hd2
          rw [Bool.and_eq_true, decide_eq_true_eq, decide_eq_true_eq] at hd2
          have h48 : ¬ (b.toNat : Int) < 48 := by omega
          have h57 : ¬ (57 : Int) < (b.toNat : Int) := by omega
          clear hd2
          have HD : Hid (dg b = true) := hd
          clear hd
          generalize val 0 (l.take k) = V at HV hv1
          generalize hdd : b.toNat - 48 = dd at HV hsub hb9
          have h10 : wrap64 (10 * (V : Int)) = 10 * (V : Int) := by unfold wrap64; omega
          have h11 : wrap64 (10 * (V : Int) + (dd : Int)) = 10 * (V : Int) + (dd : Int) := by unfold wrap64; omega
          have h12 : wrap64 (dd : Int) = (dd : Int) := by unfold wrap64; omega
          clear hdd
          go_wp2_with fail
          go_roundw
          case rel =>
            refine ⟨k + 1, by simp, hkn, by trivial, by rw [HV.out]; simp, fun i hi => ?_⟩
            by_cases h : i < k
            · exact HAL.out i h
            · obtain rfl : i = k := by omega
              exact ⟨b, HB.out, HD.out⟩
          case measure => simp only [intOf]; omega
        · have R : Hid _ := RN.out b (List.mem_of_getElem? HB.out) (by simpa using hd)
          have hor : (b.toNat : Int) < 48 ∨ (¬ (b.toNat : Int) < 48 ∧ (57 : Int) < (b.toNat : Int)) := by
            by_cases h : (b.toNat : Int) < 48
            · exact .inl h
            · refine .inr ⟨h, ?_⟩
              by_cases h' : (57 : Int) < (b.toNat : Int)
              · exact h'
              · exact absurd (by unfold dg; rw [decide_eq_true (by omega), decide_eq_true (by omega)]; rfl) hd
          clear hd
          rcases hor with h48 | ⟨h48, h57⟩
          · go_wp2_with fail
            go_ret2
            rw [R.out]
            exact ⟨rfl, rfl⟩
          · go_wp2_with fail
            go_ret2
            rw [R.out]
            exact ⟨rfl, rfl⟩
      · have c1 : decide ((k : Int) < (l.length : Int)) = false := decide_eq_false (by omega)
        have hkn2 : ¬ (k : Int) < (l.length : Int) := by omega
        have E : Hid (l.take k = l) := List.take_of_length_le (by omega)
        have R : Hid _ := RY.out (List.all_eq_true.2 fun b hb => by
          obtain ⟨i, hi, e⟩ := List.getElem_of_mem hb
          obtain ⟨b', hb', hd'⟩ := HAL.out i (by omega)
          rw [List.getElem?_eq_getElem hi] at hb'
          cases hb'
          rw [← e]
          exact hd')
        go_wp2_with fail
        go_ret2
        rw [R.out, E.out]
        exact ⟨rfl, rfl⟩
end Go.Proofs.YtolooejcgdknnaaDoor

namespace Go.Proofs.YtolooejcgdknnaaDoor
open Go.RowKit

theorem string_bytes (w : World) (s : ByteArray) : ∃ w' c, (convert 9 41 (.string s)).run Tryd.prog w = .ok (.slice (some ⟨w.heap.size, 0, none⟩) s.size c) w' ∧ BytesAt w' (some ⟨w.heap.size, 0, none⟩) (nums s) ∧ Kept w w' := by
  have hr := Lib.run_convert_string_bytes (P := Tryd.prog) w 9 41 5 s Tryd.underlying9 Tryd.underlying41 Tryd.underlying5
  refine ⟨_, _, hr, fun i x hx => ?_, ⟨rfl, rfl, rfl, by rw [Lib.bytesWorld_size]; omega, fun k hk _ => Lib.bytesWorld_at_old w _ _ k hk⟩⟩
  have hi : i < s.size := by
    have h9 := (List.getElem?_eq_some_iff.1 hx).1
    simpa [nums] using h9
  refine ⟨w.heap.size, 0, rfl, by rw [Lib.bytesWorld_size]; omega, ?_⟩
  rw [Nat.zero_add, Lib.bytesWorld_cell w _ _ i hi]
  unfold nums at hx
  rw [List.getElem?_map] at hx
  obtain ⟨b, hb, rfl⟩ := Option.map_eq_some_iff.1 hx
  rw [List.getD_eq_getElem?_getD, hb]
  rfl
/-- A row of bytes as an answer. -/
def RowB (w : World) (l : List UInt8) (v : Value) (w' : World) : Prop := ∃ b c, v = .slice (some ⟨b, 0, none⟩) l.length c ∧ BytesAt w' (some ⟨b, 0, none⟩) (nu l) ∧ w.heap.size ≤ b ∧ Kept w w'
theorem RowB.own {w w' : World} {v : Value} {l : List UInt8} (h : OwnB w.heap.size w' v (nu l)) (h0 : l ≠ []) (k : Kept w w') : RowB w l v w' := by
  rcases h.2 with ⟨rfl, hn⟩ | ⟨g, cap, cur, e, hb, r⟩
  · rw [nu_len] at hn
    exact absurd (List.eq_nil_of_length_eq_zero hn) h0
  · obtain ⟨a, cap', e', hby, -⟩ := OwnB.bytes h
    rw [e] at e'
    simp only [Value.slice.injEq] at e'
    obtain ⟨rfl, -, rfl⟩ := e'
    exact ⟨g, cap, by rw [e, nu_len], hby, hb, k⟩
end Go.Proofs.YtolooejcgdknnaaDoor

namespace Go.Proofs.YtolooejcgdknnaaDoor
open Go.RowKit

def ruV (o : Option (List UInt8)) : Value := match o with
  | some s => .tuple #[tx s, .bool true]
  | none => .tuple #[tx [], .bool false]
theorem uwd_even {l : List UInt8} (hp : ¬ pln l = true) (h : ¬ l.length % 2 = 1) : uwd l = none := by
  unfold uwd
  rw [if_neg hp]
  cases l with
  | nil => rfl
  | cons a r =>
    dsimp only
    split
    · rw [unhx_odd r (by simp at h; omega)]
    · rfl
end Go.Proofs.YtolooejcgdknnaaDoor
