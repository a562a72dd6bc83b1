/- What is proved: the document's small functions, Word, Unword, Number; conditions: the texts' lengths. -/
import Derived.Test.YtfhaiklfbnfdlabDoorNoWw
import Derived.Test.YtfhaiklfbnfdlabDoorNoAo
import Derived.Lib.ConvBytes
namespace Go.Proofs.YtfhaiklfbnfdlabDoor
open Go.RowKit

theorem small_any (b : UInt8) (w : World) : Calls Tryd.prog 64 #[.int .u8 (b.toNat : Int)] w fun e w' => e = .returned (.bool (sm b)) ∧ w' = w := by
  have E : Hid (sm b = smI (b.toNat : Int)) := rfl
  generalize (b.toNat : Int) = r at *
  by_cases h1 : 97 ≤ r <;> by_cases h2 : r ≤ 122 <;> by_cases h3 : 48 ≤ r <;> by_cases h4 : r ≤ 57 <;>
  · have g1 : (r < 97) = ¬ (97 ≤ r) := by simp
    go_enter Tryd.func64, Tryd.ntmps64
    go_wp2_with fail
    go_ret
    refine ⟨?_, rfl⟩
    rw [E.out]
    simp [smI, h1, h2, h3, h4]
theorem rplain_any (l : List UInt8) (w : World) (hl : l.length ≤ 281474976710656) : Calls Tryd.prog 48 #[tx l] w fun e w' => e = .returned (.bool (pln l)) ∧ w' = w := by
  have HS : Hid (∀ b w, _) := small_any
  go_enter Tryd.func48, Tryd.ntmps48
  go_wp2_with fail
  go_loopw [3] (fun i w' => ∃ k : Nat, i = .int .i64 (k : Int) ∧ k ≤ l.length ∧ w' = w ∧ ∀ i, i < k → ∃ b, l[i]? = some b ∧ sm b = true) (fun i _ => l.length - (intOf i).toNat)
  case atStart => exact ⟨0, rfl, Nat.zero_le _, rfl, fun i hi => absurd hi (by omega)⟩
  case round =>
    obtain ⟨k, rfl, hk, rfl, hal⟩ := hrel
    have HAL : Hid _ := hal
    clear hal
    by_cases hkn : k < l.length
    · have c1 : decide ((k : Int) < (l.length : Int)) = true := decide_eq_true (by omega)
      have hkn2 : (k : Int) < (l.length : Int) := by omega
      obtain ⟨b, hb⟩ : ∃ b, l[k]? = some b := ⟨_, List.getElem?_eq_getElem hkn⟩
      have hix : ∀ w, (Instr.index 9 (tx l) (.int .i64 (k : Int))).run Tryd.prog w = _ := idx_tx hb
      have HB : Hid _ := hb
      clear hb
      go_wp2_with fail
      refine Calls.mono (HS.out _ _) ?_
      rintro e w1 ⟨rfl, e1⟩
      subst e1
      cases hs : sm b
      · go_wp2_with fail
        go_ret
        refine ⟨?_, rfl⟩
        have : l.all sm = false := by
          rw [List.all_eq_false]
          exact ⟨b, List.mem_of_getElem? HB.out, by rw [hs]; simp⟩
        unfold pln
        rw [this]
        rfl
      · go_wp2_with fail
        go_roundw
        case rel =>
          refine ⟨k + 1, by simp, hkn, by trivial, fun i hi => ?_⟩
          by_cases h : i < k
          · exact HAL.out i h
          · obtain rfl : i = k := by omega
            exact ⟨b, HB.out, hs⟩
        case measure => simp only [intOf]; omega
    · have c1 : decide ((k : Int) < (l.length : Int)) = false := decide_eq_false (by omega)
      have hkn2 : ¬ (k : Int) < (l.length : Int) := by omega
      have ha : Hid (l.all sm = true) := all_sm fun i hi => HAL.out i (by omega)
      go_wp2_with fail
      go_ret
      refine ⟨?_, rfl⟩
      unfold pln
      rw [ha.out]
      cases l with
      | nil => rfl
      | cons a r => simp
theorem hex_any {n : Nat} (h : n < 16) (w : World) : Calls Tryd.prog 49 #[.int .i64 (n : Int)] w fun e w' => e = .returned (.int .u8 ((hx n).toNat : Int)) ∧ w' = w := by
  have cases16 : n = 0 ∨ n = 1 ∨ n = 2 ∨ n = 3 ∨ n = 4 ∨ n = 5 ∨ n = 6 ∨ n = 7 ∨ n = 8 ∨ n = 9 ∨ n = 10 ∨ n = 11 ∨ n = 12 ∨ n = 13 ∨ n = 14 ∨ n = 15 := by omega
  clear h
  rcases cases16 with rfl | rfl | rfl | rfl | rfl | rfl | rfl | rfl | rfl | rfl | rfl | rfl | rfl | rfl | rfl | rfl <;>
  · go_enter Tryd.func49, Tryd.ntmps49
    go_wp2_with fail
    go_ret
    exact ⟨rfl, rfl⟩
theorem hv_first : ∀ n : Fin 256, ∀ k : Fin 16, (hx k.val = UInt8.ofNat n.val → (∀ j : Fin 16, j < k → hx j.val ≠ UInt8.ofNat n.val) → hv (UInt8.ofNat n.val) = (k.val : Int)) := by decide +kernel
theorem hv_none : ∀ n : Fin 256, (∀ j : Fin 16, hx j.val ≠ UInt8.ofNat n.val) → hv (UInt8.ofNat n.val) = -1 := by decide +kernel
end Go.Proofs.YtfhaiklfbnfdlabDoor

namespace Go.Proofs.YtfhaiklfbnfdlabDoor
open Go.RowKit

def rnV (o : Option Nat) : Value := match o with
  | some n => .tuple #[.int .i64 (n : Int), .bool true]
  | none => .tuple #[.int .i64 0, .bool false]
end Go.Proofs.YtfhaiklfbnfdlabDoor

namespace Go.Proofs.YtfhaiklfbnfdlabDoor
open Go.RowKit

theorem string_bytes (w : World) (s : ByteArray) : ∃ w' c, (convert 9 28 (.string s)).run Tryd.prog w = .ok (.slice (some ⟨w.heap.size, 0, none⟩) s.size c) w' ∧ BytesAt w' (some ⟨w.heap.size, 0, none⟩) (nums s) ∧ Kept w w' := by
  have hr := Lib.run_convert_string_bytes (P := Tryd.prog) w 9 28 5 s Tryd.underlying9 Tryd.underlying28 Tryd.underlying5
  refine ⟨_, _, hr, fun i x hx => ?_, ⟨rfl, rfl, rfl, by rw [Lib.bytesWorld_size]; omega, fun k hk _ => Lib.bytesWorld_at_old w _ _ k hk⟩⟩
  have hi : i < s.size := by
    have h9 := (List.getElem?_eq_some_iff.1 hx).1
    simpa [nums] using h9
  refine ⟨w.heap.size, 0, rfl, by rw [Lib.bytesWorld_size]; omega, ?_⟩
  rw [Nat.zero_add, Lib.bytesWorld_cell w _ _ i hi]
  unfold nums at hx
  rw [List.getElem?_map] at hx
  obtain ⟨b, hb, rfl⟩ := Option.map_eq_some_iff.1 hx
  rw [List.getD_eq_getElem?_getD, hb]
  rfl
/-- A row of bytes as an answer. -/
def RowB (w : World) (l : List UInt8) (v : Value) (w' : World) : Prop := ∃ b c, v = .slice (some ⟨b, 0, none⟩) l.length c ∧ BytesAt w' (some ⟨b, 0, none⟩) (nu l) ∧ w.heap.size ≤ b ∧ Kept w w'
theorem RowB.own {w w' : World} {v : Value} {l : List UInt8} (h : OwnB w.heap.size w' v (nu l)) (h0 : l ≠ []) (k : Kept w w') : RowB w l v w' := by
  rcases h.2 with ⟨rfl, hn⟩ | ⟨g, cap, cur, e, hb, r⟩
  · rw [nu_len] at hn
    exact absurd (List.eq_nil_of_length_eq_zero hn) h0
  · obtain ⟨a, cap', e', hby, -⟩ := OwnB.bytes h
    rw [e] at e'
    simp only [Value.slice.injEq] at e'
    obtain ⟨rfl, -, rfl⟩ := e'
    exact ⟨g, cap, by rw [e, nu_len], hby, hb, k⟩
set_option maxRecDepth 100000 in
set_option maxHeartbeats 1600000 in
theorem rword_any (l : List UInt8) (w : World) (hl : l.length ≤ 70368744177000) : Calls Tryd.prog 36 #[tx l] w fun e w' => ∃ v, e = .returned v ∧ RowB w (wd l) v w' := by
  have HP : Hid (∀ w, _) := fun w => rplain_any l w (by omega)
  by_cases hp : pln l = true
  · have R : Hid (wd l = l) := by show _ = _; unfold wd; rw [if_pos hp]
    obtain ⟨W1, c1, hcv, ho, hk⟩ := string_bytes w ⟨l.toArray⟩
    rw [sz] at hcv
    have HO : Hid _ := And.intro ho hk
    clear ho hk
    go_enter Tryd.func36, Tryd.ntmps36
    go_wp2_with fail
    refine Calls.mono (HP.out _) ?_
    rintro e w1 ⟨rfl, e1⟩
    subst e1
    rw [hp]
    go_wp2_with fail
    go_ret
    rw [R.out]
    exact ⟨_, rfl, w1.heap.size, c1, rfl, HO.out.1, Nat.le_refl _, HO.out.2⟩
  have hp' : pln l = false := by simpa using hp
  have R : Hid (wd l = 35 :: hexs l) := by show _ = _; unfold wd; rw [if_neg hp]
  clear hp
  have HH : Hid (∀ n w, n < 16 → _) := fun n w h => hex_any (n := n) h w
  have O0 : Hid (OwnB w.heap.size (w.alloc (.cells #[.int .u8 35] 5)) (.slice (some ⟨w.heap.size, 0, none⟩) 1 1) (nu [35])) := ⟨rfl, .inr ⟨w.heap.size, 1, _, rfl, Nat.le_refl _, heap_new w _, Nat.le_refl _, by decide, rfl, rfl⟩⟩
  go_enter Tryd.func36, Tryd.ntmps36
  go_wp2_with fail
  refine Calls.mono (HP.out _) ?_
  rintro e w1 ⟨rfl, e1⟩
  subst e1
  rw [hp']
  clear HP
  go_wp2_with fail
  go_loopw [3, 4] (fun v i wr => ∃ k : Nat, i = .int .i64 (k : Int) ∧ k ≤ l.length ∧ OwnB w1.heap.size wr v (nu (35 :: hexs (l.take k))) ∧ Kept w1 wr) (fun _ i _ => l.length - (intOf i).toNat)
  case atStart => exact ⟨0, rfl, Nat.zero_le _, O0.out, (Same.refl _ _).alloc _⟩
  case round =>
    obtain ⟨k, rfl, hk, how, hkp⟩ := hrel
    have HOW : Hid _ := how
    have HKP : Hid _ := hkp
    clear how hkp O0
    rename World => W
    by_cases hkn : k < l.length
    · have c1 : decide ((k : Int) < (l.length : Int)) = true := decide_eq_true (by omega)
      have hkn2 : (k : Int) < (l.length : Int) := by omega
      obtain ⟨b, hb⟩ : ∃ b, l[k]? = some b := ⟨_, List.getElem?_eq_getElem hkn⟩
      have hix : ∀ w, (Instr.index 9 (tx l) (.int .i64 (k : Int))).run Tryd.prog w = _ := idx_tx hb
      have HT : Hid _ := take_snoc hb
      have hB := b.toNat_lt
      clear hb
      have HLL : Hid ((nu (35 :: hexs (l.take k))).length + 8 ≤ 140737488355328) := by show _ ≤ _; rw [nu_len, List.length_cons, hexs_len, List.length_take]; omega
      have HZ : Hid (w1.heap.size ≤ W.heap.size) := HKP.out.size
      obtain ⟨n1, e1⟩ : ∃ n1, n1 = b.toNat / 16 := ⟨_, rfl⟩
      obtain ⟨n2, e2⟩ : ∃ n2, n2 = b.toNat % 16 := ⟨_, rfl⟩
      have hq1 : (b.toNat : Int) / 16 = (n1 : Int) := by omega
      have hq2 : (b.toNat : Int) % 16 = (n2 : Int) := by omega
      have HN : Hid (n1 < 16 ∧ n2 < 16) := ⟨by omega, by omega⟩
      have HE : Hid (n1 = b.toNat / 16 ∧ n2 = b.toNat % 16) := ⟨e1, e2⟩
      clear e1 e2
      go_wp2_with fail
      refine Calls.mono (HH.out _ _ HN.out.1) ?_
      rintro e w2 ⟨rfl, e2⟩
      subst e2
      go_wp2_with (at_builtin; refine wpList_app rfl (.tmp 16) (.tmp 23) 28 28 rfl _ (.slice (some ⟨_, 0, none⟩) 1 1) rfl rfl _ (app_one ((hx n1).toNat : Int) HOW.out (by have := HLL.out; omega) HZ.out) ?_; rintro v3 w3 ⟨o3, k3⟩; have O3 : Hid _ := o3; have K3 : Hid (Same (fun i => w1.heap.size ≤ i) w2 w3) := k3; clear o3 k3)
      refine Calls.mono (HH.out _ _ HN.out.2) ?_
      rintro e w4 ⟨rfl, e4⟩
      subst e4
      go_wp2_with (at_builtin; refine wpList_app rfl (.tmp 25) (.tmp 32) 28 28 rfl _ (.slice (some ⟨_, 0, none⟩) 1 1) rfl rfl _ (app_one ((hx n2).toNat : Int) O3.out (by rw [List.length_append]; have := HLL.out; simp; omega) (Nat.le_trans HZ.out K3.out.size)) ?_; rintro v5 w5 ⟨o5, k5⟩; have O5 : Hid _ := o5; have K5 : Hid (Kept w1 w5) := Same.trans HKP.out (K3.out.trans' k5) (fun i hi e => by omega); clear o5 k5)
      go_roundw
      case rel =>
        refine ⟨k + 1, by simp, hkn, ?_, K5.out⟩
        rw [HT.out, hexs_snoc, ← List.cons_append, nu_app]
        have h9 := O5.out
        rw [List.append_assoc, HE.out.1, HE.out.2] at h9
        exact h9
      case measure => simp only [intOf]; omega
    · have c1 : decide ((k : Int) < (l.length : Int)) = false := decide_eq_false (by omega)
      have hkn2 : ¬ (k : Int) < (l.length : Int) := by omega
      have E : Hid (l.take k = l) := List.take_of_length_le (by omega)
      go_wp2_with fail
      go_ret
      rw [R.out]
      have h9 := HOW.out
      rw [E.out] at h9
      exact ⟨_, rfl, RowB.own h9 (by simp) HKP.out⟩
end Go.Proofs.YtfhaiklfbnfdlabDoor

namespace Go.Proofs.YtfhaiklfbnfdlabDoor
open Go.RowKit

def ruV (o : Option (List UInt8)) : Value := match o with
  | some s => .tuple #[tx s, .bool true]
  | none => .tuple #[tx [], .bool false]
theorem uwd_even {l : List UInt8} (hp : ¬ pln l = true) (h : ¬ l.length % 2 = 1) : uwd l = none := by
  unfold uwd
  rw [if_neg hp]
  cases l with
  | nil => rfl
  | cons a r =>
    dsimp only
    split
    · rw [unhx_odd r (by simp at h; omega)]
    · rfl
end Go.Proofs.YtfhaiklfbnfdlabDoor
