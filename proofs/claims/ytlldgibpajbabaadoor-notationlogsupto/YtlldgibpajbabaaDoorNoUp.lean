/- What is proved: the document's upTo and begins; condition: the text's length. -/
import Derived.Test.YtlldgibpajbabaaDoorNoRr
namespace Go.Proofs.YtlldgibpajbabaaDoor
open Go.RowKit

/-- The place of the first byte c from a place on, or the text's length. -/
def upT (l : List UInt8) (k : Nat) (c : UInt8) : Nat := k + lead (fun b => b != c) (l.drop k)
theorem upT_le (l : List UInt8) {k : Nat} (c : UInt8) (h : k ≤ l.length) : k ≤ upT l k c ∧ upT l k c ≤ l.length := by
  have := lead_le (fun b => b != c) (l.drop k)
  rw [List.length_drop] at this
  unfold upT
  omega
theorem upT_end {l : List UInt8} {k : Nat} {c : UInt8} (h : ∀ b, l[k]? = some b → b = c) : upT l k c = k := by
  unfold upT
  rw [lead_eq (k := 0) (fun i hi => absurd hi (by omega)) (fun b hb => by rw [List.getElem?_drop] at hb; simp at hb; simp [h b hb])]
  rfl
theorem upT_more {l : List UInt8} {k : Nat} {c b : UInt8} (h : l[k]? = some b) (hb : b ≠ c) : upT l k c = upT l (k + 1) c := by
  obtain ⟨h1, h2⟩ := List.getElem?_eq_some_iff.1 h
  unfold upT
  rw [List.drop_eq_getElem_cons h1, h2]
  unfold lead
  rw [List.takeWhile_cons]
  simp [hb]
  omega
set_option maxRecDepth 100000 in
theorem upTo_any (l : List UInt8) (k0 : Nat) (c : UInt8) (w : World) (hk0 : k0 ≤ l.length) (hl : l.length ≤ 281474976710656) : Calls Tryd.prog 28 #[tx l, .int .i64 (k0 : Int), .int .u8 (c.toNat : Int)] w fun e w' => e = .returned (.int .i64 (upT l k0 c : Nat)) ∧ w' = w := by
  have HU : Hid (∀ k, (∀ b, l[k]? = some b → b = c) → upT l k c = k) := fun k h => upT_end h
  have HM : Hid (∀ k b, l[k]? = some b → b ≠ c → upT l k c = upT l (k + 1) c) := fun k b h hb => upT_more h hb
  go_enter Tryd.func28, Tryd.ntmps28
  go_wp2_with fail
  go_loopw [1] (fun i w' => ∃ k : Nat, i = .int .i64 (k : Int) ∧ k ≤ l.length ∧ w' = w ∧ upT l k c = upT l k0 c) (fun i _ => l.length - (intOf i).toNat)
  case atStart => exact ⟨k0, rfl, hk0, rfl, rfl⟩
  case round =>
    obtain ⟨k, rfl, hk, rfl, he⟩ := hrel
    have HE : Hid _ := he
    clear he
    by_cases hkn : k < l.length
    · have c1 : decide ((k : Int) < (l.length : Int)) = true := decide_eq_true (by omega)
      have hkn2 : (k : Int) < (l.length : Int) := by omega
      obtain ⟨b, hb⟩ : ∃ b, l[k]? = some b := ⟨_, List.getElem?_eq_getElem hkn⟩
      have hix : ∀ w, (Instr.index 9 (tx l) (.int .i64 (k : Int))).run Tryd.prog w = _ := idx_tx hb
      have HB : Hid _ := hb
      clear hb
      by_cases hbc : b = c
      · subst hbc
        go_wp2_with fail
        go_ret
        rw [← HE.out, HU.out k (fun b' hb' => by rw [HB.out] at hb'; cases hb'; rfl)]
        exact ⟨rfl, rfl⟩
      · have q : ((b.toNat : Int) == (c.toNat : Int)) = false := (eq_b _ _).trans (beq_eq_false_iff_ne.2 hbc)
        have q2 : ((b.toNat : Int) != (c.toNat : Int)) = true := by rw [bne, q]; rfl
        have HBC : Hid (b ≠ c) := hbc
        clear hbc
        go_wp2_with fail
        go_roundw
        case rel => exact ⟨k + 1, by simp, hkn, by trivial, (HM.out k b HB.out HBC.out).symm.trans HE.out⟩
        case measure => simp only [intOf]; omega
    · have c1 : decide ((k : Int) < (l.length : Int)) = false := decide_eq_false (by omega)
      have hkn2 : ¬ (k : Int) < (l.length : Int) := by omega
      go_wp2_with fail
      go_ret
      rw [← HE.out, HU.out k (fun b' hb' => by rw [List.getElem?_eq_none (by omega)] at hb'; cases hb')]
      exact ⟨rfl, rfl⟩
theorem mid_tx (l : List UInt8) (a b : Nat) (h : a ≤ b) (hb : b ≤ l.length) (w : World) : (Instr.slice 9 (tx l) (some (.int .i64 (a : Int))) (some (.int .i64 (b : Int))) none).run Tryd.prog w = .ok (tx ((l.drop a).take (b - a))) w := by
  rw [run_slice_string w 9 _ .i64 .i64 _ _ Tryd.underlying9 (by omega) (by omega) (by rw [sz]; omega)]
  congr 2
  apply ByteArray.ext
  simp [ByteArray.data_extract]
theorem has_iff (l p : List UInt8) : Lib.hasPrefix l p = (decide (p.length ≤ l.length) && decide (l.take p.length = p)) := by
  unfold Lib.hasPrefix
  by_cases h : p <+: l
  · rw [List.isPrefixOf_iff_prefix.2 h]
    obtain ⟨r, rfl⟩ := h
    simp
  · have h1 : p.isPrefixOf l = false := by
      cases e : p.isPrefixOf l with
      | false => rfl
      | true => exact (h (List.isPrefixOf_iff_prefix.1 e)).elim
    rw [h1]
    by_cases h2 : l.take p.length = p
    · exact (h (by rw [← h2]; exact List.take_prefix _ _)).elim
    · rw [decide_eq_false h2, Bool.and_false]
set_option maxRecDepth 100000 in
theorem begins_any (l : List UInt8) (k : Nat) (p : List UInt8) (w : World) (hk : k ≤ l.length) (hl : l.length ≤ 281474976710656) (hp : p.length ≤ 281474976710656) : Calls Tryd.prog 37 #[tx l, .int .i64 (k : Int), tx p] w fun e w' => e = .returned (.bool (Lib.hasPrefix (l.drop k) p)) ∧ w' = w := by
  have EH : Hid (Lib.hasPrefix (l.drop k) p = (decide (p.length ≤ (l.drop k).length) && decide ((l.drop k).take p.length = p))) := has_iff _ _
  have hw1 : wrap64 ((l.length : Int) - (k : Int)) = (l.length : Int) - (k : Int) := by unfold wrap64; omega
  have hw2 : wrap64 ((k : Int) + (p.length : Int)) = (k : Int) + (p.length : Int) := by unfold wrap64; omega
  by_cases h : (p.length : Int) ≤ (l.length : Int) - (k : Int)
  · have hs : ∀ w, (Instr.slice 9 (tx l) (some (.int .i64 (k : Int))) (some (.int .i64 ((k : Int) + (p.length : Int)))) none).run Tryd.prog w = .ok (tx ((l.drop k).take p.length)) w := fun w => by
      have := mid_tx l k (k + p.length) (by omega) (by omega) w
      rw [show k + p.length - k = p.length by omega, Int.natCast_add] at this
      exact this
    have c1 : decide ((p.length : Int) ≤ (l.length : Int) - (k : Int)) = true := decide_eq_true h
    have EH2 : Hid (Lib.hasPrefix (l.drop k) p = decide ((l.drop k).take p.length = p)) := by
      show _ = _
      rw [EH.out, decide_eq_true (by rw [List.length_drop]; omega), Bool.true_and]
    by_cases he : (l.drop k).take p.length = p
    · have q1 : ((l.drop k).take p.length == p) = true := beq_iff_eq.2 he
      have R : Hid _ := EH2.out.trans (decide_eq_true he)
      clear he EH EH2
      generalize (l.drop k).take p.length = m at *
      go_enter Tryd.func37, Tryd.ntmps37
      go_wp2_with fail
      go_ret
      rw [R.out]
      exact ⟨rfl, rfl⟩
    · have q1 : ((l.drop k).take p.length == p) = false := beq_eq_false_iff_ne.2 he
      have R : Hid _ := EH2.out.trans (decide_eq_false he)
      clear he EH EH2
      generalize (l.drop k).take p.length = m at *
      go_enter Tryd.func37, Tryd.ntmps37
      go_wp2_with fail
      go_ret
      rw [R.out]
      exact ⟨rfl, rfl⟩
  · have c1 : decide ((p.length : Int) ≤ (l.length : Int) - (k : Int)) = false := decide_eq_false h
    have R : Hid (Lib.hasPrefix (l.drop k) p = false) := by
      show _ = _
      rw [EH.out, decide_eq_false (p := p.length ≤ _) (by rw [List.length_drop]; omega), Bool.false_and]
    clear EH
    go_enter Tryd.func37, Tryd.ntmps37
    go_wp2_with fail
    go_ret
    rw [R.out]
    exact ⟨rfl, rfl⟩
end Go.Proofs.YtlldgibpajbabaaDoor
