/- What is proved: the anchor of report's laws answers true; the document's words of an outcome's kinds; conditions: that the tables lie as their texts lay them, that the library's variable of the greatest length holds a number. -/
import Derived.Test.YtfhaiklfbnfdlaaDoorRoM
namespace Go.Proofs.YtfhaiklfbnfdlaaDoor
open Go.RowKit

def ouA : OuM := ⟨8, 0, 0, 4, 0, []⟩
def txA22 : List UInt8 := [112, 114, 111, 99, 116, 111, 114, 32, 49, 10, 111, 117, 116, 99, 111, 109, 101, 32, 97, 99, 99, 101, 112, 116, 10, 116, 120, 110, 115, 32, 52, 10, 101, 110, 100, 10]
theorem itoa_4 : Lib.itoa 4 = [52] := by
  unfold Lib.itoa
  rw [if_neg (by decide), show ((4 : Int)).toNat = 4 from rfl, Lib.decDigits, dif_pos (by decide)]
  rfl
theorem out_A : outL ouA = txA22 := by
  have e : frontL ouA = headB ++ oWord 8 ++ [10] ++ [] ++ [] ++ (([116, 120, 110, 115, 32] ++ Lib.itoa 4) ++ [10]) ++ [] := rfl
  unfold outL
  rw [e, itoa_4]
  rfl
theorem ok_A : okO ouA = true := by decide +kernel
theorem rend_A : rendT ouA = (txA22, 0) := by
  unfold rendT
  rw [if_pos ok_A, out_A]
theorem prs_A : prsT txA22 = (ouA, 0) := by kernel_rfl
set_option maxRecDepth 100000 in
set_option maxHeartbeats 3200000 in
theorem anchor_any22 (w : World) (tb : Tab w.heap.size w) (hm : Mx w) (hw : Wds w) : Calls Tryd.prog 9 #[] w fun e w' => e = .returned (.bool true) ∧ Kept w w' := by
  have HR : Hid (Calls Tryd.prog 12 #[ouV ouA (.slice none 0 0)] w fun e w' => e = .returned (.tuple #[tx txA22, .int .i64 0]) ∧ Kept w w') := by
    have h := render22 w ouA none 0 (fun j x hx => by cases hx) (by decide) tb hw
    rw [rend_A] at h
    exact h
  have HP : Hid (∀ W, Kept w W → Calls Tryd.prog 16 #[tx txA22] W fun e w' => ∃ a c, e = .returned (.tuple #[ouV ouA (.slice a 0 c), .int .i64 0]) ∧ Kept W w') := fun W k => by
    have h := parse22 txA22 W (by decide) (hm.on k) (hw.on k)
    rw [prs_A] at h
    exact h.mono fun e w' ⟨a, c, h1, _, h3⟩ => ⟨a, c, h1, h3⟩
  have hln : ((⟨txA22.toArray⟩ : ByteArray).toList == ByteArray.toList ⟨txA22.toArray⟩) = true := by simp
  unfold ouV ouA at HR HP
  dsimp only at HR HP
  clear tb hm hw
  go_enter Tryd.func9, Tryd.ntmps9
  go_wp2_with fail
  refine Calls.mono HR.out ?_
  rintro e w1 ⟨rfl, k1⟩
  have K1 : Hid (Kept w w1) := k1
  clear k1 HR
  go_wp2_with fail
  refine Calls.mono (HP.out _ K1.out) ?_
  rintro e w2 ⟨a, c, rfl, k2⟩
  have K2 : Hid (Kept w w2) := K1.out.trans' k2
  clear k2 K1 HP
  obtain ⟨W3, e3⟩ : ∃ W3, W3 = w2.alloc (.cells #[.int .i64 8, .int .i64 0, .int .i64 0, .int .i64 4, .int .i64 0, .slice a 0 c] 25 (0, 0)) := ⟨_, rfl⟩
  have B3 : Hid (W3.heap[w2.heap.size]? = some (.cells #[.int .i64 8, .int .i64 0, .int .i64 0, .int .i64 4, .int .i64 0, .slice a 0 c] 25 (0, 0))) := by rw [e3]; exact heap_new w2 _
  have K3 : Hid (Kept w W3) := by rw [e3]; exact K2.out.alloc _
  go_upto_region 3 with fail
  rw [← e3]
  clear e3
  obtain ⟨d0, d1, d2, d3, d4, d5⟩ := ou_obj B3.out
  have ld := lt_of_heap B3.out
  go_wp2_with fail
  go_ret
  exact ⟨rfl, K3.out⟩
end Go.Proofs.YtfhaiklfbnfdlaaDoor

namespace Go.Proofs.YtfhaiklfbnfdlaaDoor
open Go.RowKit

/-- The document's table of words. -/
def oTab : Array Value := #[tx [], tx [99, 111, 110, 102, 105, 103], tx [109, 97, 108, 102, 111, 114, 109, 101, 100], tx [105, 111], tx [99, 114, 97, 115, 104], tx [110, 111, 115, 112, 97, 99, 101], tx [115, 116, 97, 116, 101], tx [99, 97, 110, 99, 101, 108, 108, 101, 100], tx [97, 99, 99, 101, 112, 116], tx [114, 101, 106, 101, 99, 116]]
theorem oTab_at (i : Nat) (h : i < 10) : oTab[i]? = some (tx (oWord (i : Int))) := by
  match i, h with
  | 0, _ => rfl
  | 1, _ => rfl
  | 2, _ => rfl
  | 3, _ => rfl
  | 4, _ => rfl
  | 5, _ => rfl
  | 6, _ => rfl
  | 7, _ => rfl
  | 8, _ => rfl
  | 9, _ => rfl
  | n + 10, h => omega
theorem routcomes_any (w : World) : Calls Tryd.prog 36 #[] w fun e w' => e = .returned (.slice (some ⟨w.heap.size, 0, none⟩) 10 10) ∧ w' = w.alloc (.cells oTab 9 (0, 0)) := by
  unfold oTab
  go_enter Tryd.func36, Tryd.ntmps36
  go_wp2_with fail
  go_ret
  exact ⟨rfl, rfl⟩
theorem rkind_any (k : Int) (w : World) : Calls Tryd.prog 21 #[.int .i64 k] w fun e w' => e = .returned (tx (oWord k)) ∧ Kept w w' := by
  have H : Hid (∀ W, _) := fun W => routcomes_any W
  by_cases h1 : k < 1
  · have e : oWord k = [] := by
      unfold oWord
      rw [if_neg (fun h => by have := Vi.wi_iff.1 h; omega)]
    have d : decide (k < 1) = true := decide_eq_true h1
    rw [e]
    go_enter Tryd.func21, Tryd.ntmps21
    go_wp2_with fail
    go_ret
    exact ⟨rfl, Same.refl _ _⟩
  · have d : decide (k < 1) = false := decide_eq_false h1
    by_cases h2 : k > 9
    · have e : oWord k = [] := by
        unfold oWord
        rw [if_neg (fun h => by have := Vi.wi_iff.1 h; omega)]
      have d2 : decide (k > 9) = true := decide_eq_true h2
      have h2' : 9 < k := h2
      rw [e]
      go_enter Tryd.func21, Tryd.ntmps21
      go_wp2_with fail
      go_ret
      exact ⟨rfl, Same.refl _ _⟩
    · have d2 : decide (k > 9) = false := decide_eq_false h2
      have h2' : ¬ 9 < k := h2
      obtain ⟨i, rfl⟩ : ∃ i : Nat, k = (i : Int) := ⟨k.toNat, by omega⟩
      have hi : i < 10 := by omega
      have hc : ((w.alloc (.cells oTab 9 (0, 0))).cell? ⟨w.heap.size, i, none⟩) = some (tx (oWord (i : Int))) := (cell_of (heap_new w _) i).trans (oTab_at i hi)
      have K : Hid (Kept w (w.alloc (.cells oTab 9 (0, 0)))) := (Same.refl _ w).alloc _
      have lb : w.heap.size < (w.alloc (.cells oTab 9 (0, 0))).heap.size := by simp
      have b1 : (0 : Int) ≤ (i : Int) := by omega
      have b2 : (i : Int) < 10 := by omega
      generalize oWord (i : Int) = s at *
      go_enter Tryd.func21, Tryd.ntmps21
      go_wp2_with fail
      refine Calls.mono (H.out _) ?_
      rintro e w1 ⟨rfl, e1⟩
      generalize w.alloc (.cells oTab 9 (0, 0)) = W1 at *
      subst e1
      go_wp2_with fail
      go_ret
      exact ⟨rfl, K.out⟩
end Go.Proofs.YtfhaiklfbnfdlaaDoor
