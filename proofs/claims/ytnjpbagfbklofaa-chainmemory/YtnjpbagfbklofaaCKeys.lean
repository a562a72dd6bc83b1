/- What is proved: Keys gives the keys that have a version, each once, rising, in a list of its own; the store lies in memory. -/
import Derived.Test.YtnjpbagfbklofaaCIter
import Derived.Test.YtnjpbagfbklofaaCIns
namespace Go.Proofs.Ytnjpbagfbklofaa
open Go.RowKit
open Go.Proofs (encStr)

theorem keys_sorted {A : List En} {ss : List (List UInt8)} (hn : ss.Nodup) (hm : ∀ x, x ∈ ss ↔ ∃ e ∈ A, e.key.toList = x) : KeysOf A (ss.mergeSort (fun x y => decide (x ≤ y))) := by
  have tr : ∀ a b c : List UInt8, decide (a ≤ b) = true → decide (b ≤ c) = true → decide (a ≤ c) = true := fun a b c h1 h2 => by simp only [decide_eq_true_eq] at *; exact List.le_trans h1 h2
  have tl : ∀ a b : List UInt8, (decide (a ≤ b) || decide (b ≤ a)) = true := fun a b => by simp only [Bool.or_eq_true, decide_eq_true_eq]; exact List.le_total a b
  have hp := List.mergeSort_perm ss (fun x y => decide (x ≤ y))
  have hs := List.pairwise_mergeSort (le := fun x y => decide (x ≤ y)) tr tl ss
  refine ⟨?_, fun x => (hp.mem_iff).trans (hm x)⟩
  have hd : (ss.mergeSort (fun x y => decide (x ≤ y))).Pairwise (fun a b => a ≠ b) := hp.nodup_iff.2 hn
  refine (hs.and hd).imp fun {a b} h => ?_
  have h1 : a ≤ b := of_decide_eq_true h.1
  exact Classical.byContradiction fun hlt => h.2 (List.le_antisymm h1 hlt)
theorem own_lower {w : World} {base base' : Nat} {e : TypeId} {size : Nat} {v : Value} {n : Nat} {xs : List Value} (h : w.ownsRow base e size v n xs) (hb : base' ≤ base) : w.ownsRow base' e size v n xs :=
  ⟨h.1, h.2.imp id fun ⟨g, cap, cur, h1, h2, h3⟩ => ⟨g, cap, cur, h1, Nat.le_trans hb h2, h3⟩⟩
/-- A list of strings of one's own. -/
abbrev OwnS (base : Nat) (w : World) (v : Value) (l : List (List UInt8)) : Prop := w.ownsRow base 9 1 v l.length (l.map encStr)
set_option maxRecDepth 100000 in
set_option maxHeartbeats 1600000 in
theorem keys13 {F : Nat → Prop} {w : World} {sb : Nat} {A : List En} (h : St F w sb A) (hn : A.length ≤ 5277655813324) :
    Calls Try.prog 19 #[.pointer (some ⟨sb, 0, none⟩)] w fun e w' => ∃ v l, e = .returned v ∧ KeysOf A l ∧ OwnS w.heap.size w' v l ∧ Kept w w' := by
  obtain ⟨cb, lb, D, DL, h, -⟩ := h
  obtain ⟨⟨c0, -⟩, -, hb⟩ := h.cells
  have hsl := h.size_le
  have HK : Hid _ := callsIn_wide.1 (Try.maps_Keys_32 (some cb) w)
  have HS : Hid _ := callsIn_wide.1 (Try.slices_Sorted_keys_31_32 cb _ D rawE w h.own (by unfold maxLen; omega) (by omega))
  have HE : Hid (∀ ss : List (List UInt8), ss.Perm (strKeys D) → KeysOf A (ss.mergeSort (fun x y => decide (x ≤ y)))) := fun ss hp => by
    refine keys_sorted (hp.nodup_iff.2 (strKeys_nodup h.own).1) fun x => (hp.mem_iff.trans (strKeys_mem h.own x)).trans ?_
    have hkx := h.at_ ⟨x.toArray⟩ (by simp)
    rw [kl_mk] at hkx
    constructor
    · intro hh
      rcases hkx with ⟨_, h2⟩ | ⟨h1, _⟩
      · rw [hh] at h2; cases h2
      · obtain ⟨e, he, h2⟩ := ch_ne_nil.1 h1
        exact ⟨e, he, h2.trans (ByteArray.toList_mk x)⟩
    · rintro ⟨e, he, hx⟩
      rcases hkx with ⟨h1, _⟩ | ⟨_, v, h2, _⟩
      · exact absurd h1 (ch_ne_nil.2 ⟨e, he, hx.trans (ByteArray.toList_mk x).symm⟩)
      · exact Go.Maps.has_true_of_atKey h2
  clear h hsl
  go_enter Try.func19, Try.ntmps19
  go_wp2_with fail
  refine Calls.mono HK.out ?_
  rintro e w1 ⟨rfl, rfl⟩
  go_wp2_with fail
  refine Calls.mono HS.out ?_
  rintro e w2 ⟨v, ss, rfl, hS, hrow, -, hbl⟩
  have HR : Hid (OwnS w.heap.size w2 v (ss.mergeSort (fun x y => decide (x ≤ y)))) := by
    show OwnS w.heap.size w2 v _
    unfold OwnS
    rw [List.length_mergeSort]
    exact own_lower hrow (by rw [World.size_alloc]; omega)
  have HKP : Hid (Kept w w2) := ((Same.refl _ w).alloc _).trans' (Same.of_below hbl _)
  rcases hrow.2 with ⟨rfl, _⟩ | ⟨g, cap, cur, rfl, -⟩
  all_goals
    clear hrow hbl HS HK
    go_wp2_with fail
    go_ret
    exact ⟨_, _, rfl, HE.out ss hS, HR.out, HKP.out⟩
end Go.Proofs.Ytnjpbagfbklofaa
