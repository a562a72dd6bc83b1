/- What is proved: List gives the first violations, sorted, in a list of its own; the top lies in memory. -/
import Derived.Test.YtnfkjblhnpnaeaaVIter
import Derived.Test.YtnfkjblhnpnaeaaVSrt
import Derived.Test.YtnfkjblhnpnaeaaVLay
namespace Go.Proofs.Ytnfkjblhnpnaeaa
open Go.RowKit

theorem swoN : Sort.SWO (ltOf compN) := by
  have e : ltOf compN = ltN := rfl
  rw [e]
  exact ⟨fun x => ltN_swo.irr x, fun x y z h1 h2 => ltN_swo.trans h1 h2, fun x y z h1 h2 => ltN_swo.ntr h1 h2⟩
theorem cmpLaysN (blk off size : Nat) (w : World) : CmpLays Try.prog 27 #[] nb1 13 compN blk off size w := fun _ _ _ _ x y => by
  refine (cmpN18 x y _).mono fun e w' h => ?_
  exact h
/-- The library's sort over violations with numbers of their own. -/
theorem sortF18 {base : Nat} {w : World} {v : Value} {L : List Nb} (h : OwnN base w v L) (hd : Dis L) (hl : L.length ≤ 20000) :
    Calls Try.prog 37 #[v, .func (.func 27) #[] #[]] w fun e w' => e = .returned (.tuple #[]) ∧ OwnN base w' v (srt ltN L) ∧ Same (fun b => v.ownBlock = some b) w w' := by
  rcases h.2 with ⟨rfl, hn⟩ | ⟨g, cap, cur, rfl, hb, hg, h1, h2, h3, h4⟩
  · have hL : L = [] := List.eq_nil_of_length_eq_zero hn
    subst hL
    refine (AnyF.slices_SortFunc_none Try.sortN none 0 _ w).mono fun e w' ⟨h1, h2⟩ => ?_
    subst h2
    exact ⟨h1, h, Same.refl _ _⟩
  · have hc := AnyQ.slices_SortFunc Try.sortN 13 Try.isAgg55 Try.sizeOf55 nb1 ekN.len ekN.one compN swoN 27 #[] g 0 cap L.toArray w Try.call27 (cmpLaysN _ _ _ _) (h.holdsK ekN) (lt_of_heap hg) (by simp; omega)
    refine hc.mono fun e w' ⟨he, d', n, os, hp, hs, hw⟩ => ?_
    subst hw
    obtain ⟨p1, p2, p3⟩ := hp
    have hsz : d'.toList.length = L.length := by simpa using p1
    have hd' : d' = d'.toList.toArray := by simp
    have hperm : d'.toList.Perm L := by
      have q : d'.extract 0 L.toArray.size = d' := by rw [← p1]; simp
      rw [q] at p3
      simpa using p3
    have hpw : d'.toList.Pairwise fun a b => ltN b a = false := by
      rw [List.pairwise_iff_getElem]
      intro i j hi hj hij
      have := hs i j (Nat.zero_le _) hij (by rw [← p1]; simpa using hj)
      rw [getElem!_pos d' j (by simpa using hj), getElem!_pos d' i (by simpa using hi)] at this
      have this : ltN d'[j] d'[i] = false := this
      simpa using this
    have hsrt := hd.srt hperm hpw
    obtain ⟨o1, s1⟩ := h.sorted ekN d'.toList hsz n os
    rw [← hd'] at o1 s1
    rw [← hsrt]
    exact ⟨he, o1, s1.mono fun b _ e => by subst e; rfl⟩
set_option maxRecDepth 100000 in
set_option maxHeartbeats 1600000 in
theorem sortedF18 {w0 w : World} {base Bs cap : Nat} {a : Option Addr} {xs : List Nb} (h : OwnN base w0 (.slice a xs.length cap) xs) (hd : Dis xs) (hlen : xs.length ≤ 20000) (hw0 : w0.heap.size ≤ Bs) (hk : Kept w0 w) (hBl : Bs < w.heap.size) (hc : w.cell? ⟨Bs, 0, none⟩ = some (.slice a xs.length cap)) :
    Calls Try.prog 25 #[.func (.func 38) #[] #[.pointer (some ⟨Bs, 0, none⟩)], .func (.func 27) #[] #[]] w fun e w' => ∃ v, e = .returned v ∧ OwnN w.heap.size w' v (srt ltN xs) ∧ Kept w w' := by
  have ha : ∀ ad, a = some ad → ∃ g, ad = ⟨g, 0, none⟩ := fun ad e => by
    subst e
    rcases h.2 with ⟨e0, hn⟩ | ⟨g', cap', cur, e0, -⟩
    · cases e0
    · cases e0
      exact ⟨g', rfl⟩
  have HC : Hid _ := collect18 w Bs xs hlen (vals_stops 1 (Nat.le_refl _) Bs w.heap.size cap a ha xs hlen w0 w (h.at ekN) (by omega) hk hBl (Nat.le_refl _) hc)
  have HS : Hid (∀ W v, OwnN w.heap.size W v xs → _) := fun W v (o : OwnN w.heap.size W v xs) => sortF18 o hd hlen
  clear h hd hc hk
  go_enter Try.func25, Try.ntmps25
  go_wp2_with fail
  refine Calls.mono HC.out ?_
  rintro r w1 ⟨v, rfl, o1, k1⟩
  have HS1 : Hid _ := HS.out w1 v o1
  have HO1 : Hid (OwnN w.heap.size w1 v xs) := o1
  have K1 : Hid (Kept w w1) := k1
  rcases o1.2 with ⟨rfl, _⟩ | ⟨g, cp, cur, rfl, -⟩
  all_goals
    clear o1 k1 HC HS
    go_wp2_with fail
    refine Calls.mono HS1.out ?_
    rintro r w2 ⟨rfl, o2, s2⟩
    have R2 : Hid (OwnN w.heap.size w2 _ (srt ltN xs) ∧ Same _ w1 w2) := ⟨o2, s2⟩
    clear o2 s2 HS1
    go_wp2_with fail
    go_ret
    refine ⟨_, rfl, R2.out.1, ?_⟩
    exact K1.out.trans R2.out.2 fun b hb e => absurd hb (Nat.not_lt.2 (HO1.out.block e).1)
end Go.Proofs.Ytnfkjblhnpnaeaa
