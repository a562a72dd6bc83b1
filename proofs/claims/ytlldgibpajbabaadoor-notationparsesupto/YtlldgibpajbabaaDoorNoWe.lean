/- What is proved: the code's Number, unhex, Word, Unword; conditions: lengths. -/
import Derived.Test.YtlldgibpajbabaaDoorNoWd
namespace Go.Proofs.YtlldgibpajbabaaDoor
open Go.RowKit

theorem val_snoc (n : Nat) (l : List UInt8) (b : UInt8) : val n (l ++ [b]) = 10 * val n l + (b.toNat - 48) := by simp [val]
theorem val_le : ∀ (l : List UInt8) (n : Nat), (∀ b ∈ l, b.toNat ≤ 57) → val n l < (n + 1) * 10 ^ l.length
  | [], n, _ => by simp [val]
  | a :: l, n, h => by
    have ih := val_le l (10 * n + (a.toNat - 48)) (fun b hb => h b (List.mem_cons_of_mem _ hb))
    have h1 := h a (List.mem_cons_self ..)
    have : val n (a :: l) = val (10 * n + (a.toNat - 48)) l := rfl
    rw [this, List.length_cons, Nat.pow_succ]
    have h2 : (10 * n + (a.toNat - 48) + 1) * 10 ^ l.length ≤ (n + 1) * (10 ^ l.length * 10) := by
      rw [Nat.mul_comm (10 ^ l.length) 10, ← Nat.mul_assoc]
      exact Nat.mul_le_mul_right _ (by omega)
    omega
theorem take_snoc {l : List UInt8} {k : Nat} {b : UInt8} (h : l[k]? = some b) : l.take (k + 1) = l.take k ++ [b] := by
  rw [List.take_add_one, h]
  rfl
theorem lead_all {f : UInt8 → Bool} : ∀ {l : List UInt8}, (lead f l < l.length) = (l.all f = false)
  | [] => by simp [lead]
  | a :: l => by
    have ih := lead_all (f := f) (l := l)
    unfold lead at ih ⊢
    rw [List.takeWhile_cons, List.all_cons]
    cases h : f a
    · simp
    · simp at ih ⊢
      exact ih
theorem sub_dig {b : UInt8} (h : dg b = true) : IntKind.u8.wrap ((b.toNat : Int) - 48) = ((b.toNat - 48 : Nat) : Int) := by
  unfold dg at h
  rw [Bool.and_eq_true, decide_eq_true_eq, decide_eq_true_eq] at h
  simp [IntKind.wrap, IntKind.signed, IntKind.bits]
  omega

def numV (o : Option Nat) : Value := match o with
  | some n => .tuple #[.int .i64 (n : Int), .int .i64 0]
  | none => .tuple #[.int .i64 0, .int .i64 210]
theorem number_any21 (l : List UInt8) (w : World) (hl : l.length ≤ 281474976710656) : Calls Tryd.prog 49 #[tx l] w fun e w' => e = .returned (numV (numb l)) ∧ w' = w := by
  have HDA : Hid _ := digits_any l w hl
  by_cases h0 : l.length = 0
  · have e0 : l = [] := List.eq_nil_of_length_eq_zero h0
    subst e0
    clear HDA
    go_enter Tryd.func49, Tryd.ntmps49
    go_wp2_with fail
    go_ret2
    exact ⟨rfl, rfl⟩
  have q0 : ((l.length : Int) == 0) = false := beq_eq_false_iff_ne.2 (by omega)
  have hne : ¬ l = [] := fun e => h0 (by rw [e]; rfl)
  by_cases h15 : 15 < l.length
  · have q15 : (15 : Int) < (l.length : Int) := by omega
    have R : Hid (numb l = none) := by show _ = _; unfold numb; rw [if_pos (.inr (.inl h15))]
    clear HDA
    go_enter Tryd.func49, Tryd.ntmps49
    go_wp2_with fail
    go_ret2
    rw [R.out]
    exact ⟨rfl, rfl⟩
  have q15 : ¬ (15 : Int) < (l.length : Int) := by omega
  by_cases hd : l.all dg = false
  · have ql : (lead dg l : Int) < (l.length : Int) := by
      have := lead_all (f := dg) (l := l)
      rw [← this] at hd
      omega
    have R : Hid (numb l = none) := by show _ = _; unfold numb; rw [if_pos (.inr (.inr (.inl hd)))]
    go_enter Tryd.func49, Tryd.ntmps49
    go_wp2_with fail
    refine Calls.mono HDA.out ?_
    rintro e w1 ⟨rfl, e1⟩
    subst e1
    go_wp2_with fail
    go_ret2
    rw [R.out]
    exact ⟨rfl, rfl⟩
  have ql : ¬ (lead dg l : Int) < (l.length : Int) := by
    have := lead_all (f := dg) (l := l)
    rw [← this] at hd
    omega
  have hall : l.all dg = true := by simpa using hd
  have HALL : Hid (∀ b ∈ l, dg b = true) := fun b hb => List.all_eq_true.1 hall b hb
  clear hd hall
  obtain ⟨b0, hb0⟩ : ∃ b, l[0]? = some b := ⟨_, List.getElem?_eq_getElem (by omega)⟩
  have hix0 : ∀ w, (Instr.index 9 (tx l) (.int .i64 0)).run Tryd.prog w = _ := idx_tx hb0
  by_cases hz : b0 = 48 ∧ 1 < l.length
  · have q48 : ((b0.toNat : Int) == 48) = true := by rw [hz.1]; rfl
    have q1 : (1 : Int) < (l.length : Int) := by omega
    have R : Hid (numb l = none) := by show _ = _; unfold numb; rw [if_pos (.inr (.inr (.inr ⟨by rw [List.head?_eq_getElem?, hb0, hz.1], hz.2⟩)))]
    clear hz hb0
    go_enter Tryd.func49, Tryd.ntmps49
    go_wp2_with fail
    refine Calls.mono HDA.out ?_
    rintro e w1 ⟨rfl, e1⟩
    subst e1
    go_wp2_with fail
    go_ret2
    rw [R.out]
    exact ⟨rfl, rfl⟩
  have R : Hid (numb l = some (val 0 l)) := by
    show _ = _
    unfold numb
    rw [if_neg]
    rintro (h | h | h | ⟨h, h'⟩)
    · exact h0 h
    · exact h15 h
    · rw [List.all_eq_false] at h
      obtain ⟨b, hb, hn⟩ := h
      exact hn (HALL.out b hb)
    · rw [List.head?_eq_getElem?, hb0] at h
      cases h
      exact hz ⟨rfl, h'⟩
  have HNZ : Hid ((((b0.toNat : Int) == 48) = true ∧ ¬ (1 : Int) < (l.length : Int)) ∨ ((b0.toNat : Int) == 48) = false) := by
    by_cases h : b0 = 48
    · exact .inl ⟨by rw [h]; rfl, fun e => hz ⟨h, by omega⟩⟩
    · exact .inr ((eq_b b0 48).trans (beq_eq_false_iff_ne.2 h))
  clear hz hb0
  have FIN : Hid (∀ k, k ≤ l.length → val 0 (l.take k) < 1000000000000000) := fun k hk => by
    have h1 := val_le (l.take k) 0 (fun b hb => by
      have := HALL.out b (List.mem_of_mem_take hb)
      unfold dg at this
      rw [Bool.and_eq_true, decide_eq_true_eq, decide_eq_true_eq] at this
      exact this.2)
    have h2 : (l.take k).length ≤ 15 := by rw [List.length_take]; omega
    have h3 : 10 ^ (l.take k).length ≤ 10 ^ 15 := Nat.pow_le_pow_right (by omega) h2
    omega
  go_enter Tryd.func49, Tryd.ntmps49
  rcases HNZ.out with ⟨q48, q1⟩ | q48 <;>
  · clear HNZ
    go_wp2_with fail
    refine Calls.mono HDA.out ?_
    rintro e w1 ⟨rfl, e1⟩
    subst e1
    clear HDA
    go_wp2_with fail
    clear hix0 q48
    go_loopw [4, 31] (fun v i w' => ∃ k : Nat, i = .int .i64 (k : Int) ∧ k ≤ l.length ∧ w' = w1 ∧ v = .int .i64 (val 0 (l.take k) : Int)) (fun _ i _ => l.length - (intOf i).toNat)
    case atStart => exact ⟨0, rfl, Nat.zero_le _, rfl, rfl⟩
    case round =>
      obtain ⟨k, rfl, hk, rfl, rfl⟩ := hrel
      by_cases hkn : k < l.length
      · have c1 : decide ((k : Int) < (l.length : Int)) = true := decide_eq_true (by omega)
        have hkn2 : (k : Int) < (l.length : Int) := by omega
        obtain ⟨b, hb⟩ : ∃ b, l[k]? = some b := ⟨_, List.getElem?_eq_getElem hkn⟩
        have hix : ∀ w, (Instr.index 9 (tx l) (.int .i64 (k : Int))).run Tryd.prog w = _ := idx_tx hb
        have hsub := sub_dig (HALL.out b (List.mem_of_getElem? hb))
        have hv1 := FIN.out k hk
        have HV : Hid (val 0 (l.take (k + 1)) = 10 * val 0 (l.take k) + (b.toNat - 48)) := by show _ = _; rw [take_snoc hb, val_snoc]
        have hb9 : b.toNat - 48 < 256 := by have := b.toNat_lt; omega
        clear hb
        generalize val 0 (l.take k) = V at HV hv1
        generalize hdd : b.toNat - 48 = dd at HV hsub hb9
        have h10 : wrap64 (10 * (V : Int)) = 10 * (V : Int) := by unfold wrap64; omega
        have h11 : wrap64 (10 * (V : Int) + (dd : Int)) = 10 * (V : Int) + (dd : Int) := by unfold wrap64; omega
        have h12 : wrap64 (dd : Int) = (dd : Int) := by unfold wrap64; omega
        clear hdd
        go_wp2_with fail
        go_roundw
        case rel => exact ⟨k + 1, by simp, hkn, by trivial, by rw [HV.out]; simp⟩
        case measure => simp only [intOf]; omega
      · have c1 : decide ((k : Int) < (l.length : Int)) = false := decide_eq_false (by omega)
        have hkn2 : ¬ (k : Int) < (l.length : Int) := by omega
        have : Hid (l.take k = l) := List.take_of_length_le (by omega)
        go_wp2_with fail
        go_ret2
        rw [R.out, this.out]
        exact ⟨rfl, rfl⟩
end Go.Proofs.YtlldgibpajbabaaDoor
