/- What is proved: Put refuses what is not right and else puts it; the top lies in memory. -/
import Derived.Test.YtnfkjblhnpnaeaaVTop
import Derived.StillTailTactics
namespace Go.Proofs.Ytnfkjblhnpnaeaa
open Go.RowKit

set_option maxRecDepth 100000 in
set_option maxHeartbeats 1600000 in
theorem put18_no {base : Nat} {w : World} {tb lim : Nat} {vs : List Vl} {v : Value} {L : List Nb} (_ : Tp base w tb lim vs v L) {x : Vl} (hx : okV x = false) : Calls Try.prog 11 #[.pointer (some ⟨tb, 0, none⟩), vlV x] w fun e w' => e = .returned (.int .i64 181) ∧ Kept w w' := by
  have H : Hid (∀ W, _) := fun W => valid18 x W
  rw [hx] at H
  clear hx
  have K : Hid (Kept w ((w.alloc (vlO x)).alloc (vlO x))) := ((Same.refl _ w).alloc _).alloc _
  obtain ⟨kd, tm, tx, op, wit, key, wa, ex, gg, ob, fr, tt⟩ := x
  unfold vlV vlO at *
  simp only at *
  go_enter Try.func11, Try.ntmps11
  go_wp2_with fail
  refine Calls.mono (H.out _) ?_
  rintro r w1 ⟨rfl, rfl⟩
  go_wp2_with fail
  go_ret
  exact ⟨rfl, K.out⟩
set_option maxRecDepth 100000 in
set_option maxHeartbeats 3200000 in
theorem put18_ok {base : Nat} {w : World} {tb lim : Nat} {vs : List Vl} {v : Value} {L : List Nb} (h : Tp base w tb lim vs v L) {x : Vl} (hx : okV x = true) (hm : vs.length + 1 ≤ 4398046511104) : Calls Try.prog 11 #[.pointer (some ⟨tb, 0, none⟩), vlV x] w fun e w' => e = .returned (.int .i64 0) ∧ ∃ v' L', Tp base w' tb lim (vs ++ [x]) v' L' ∧ Same (fun b => b = tb ∨ v.ownBlock = some b) w w' ∧ ∀ b, v'.ownBlock = some b → v.ownBlock = some b ∨ w.heap.size ≤ b := by
  have H : Hid (∀ W, _) := fun W => valid18 x W
  rw [hx] at H
  clear hx
  have HH : Hid (∀ W, Kept w W → _) := fun W (k : Kept w W) => hold18 (h.kept k) x
  have K : Hid (Kept w ((w.alloc (vlO x)).alloc (vlO x))) := ((Same.refl _ w).alloc _).alloc _
  have HG : Hid (((w.alloc (vlO x)).alloc (vlO x)).heap[w.heap.size]? = some (vlO x)) := (heap_old _ (vlO x) (by rw [World.size_alloc]; exact Nat.lt_succ_self _)).trans (heap_new w (vlO x))
  have HT : Hid (Tp base w tb lim vs v L) := h
  have HF : Hid (∀ w1 v' L', w1.heap[tb]? = some (tpO lim vs.length v') → OwnN base w1 v' L' → Hd lim (vs ++ [x]) L' → Same (fun b => b = tb ∨ v.ownBlock = some b) w w1 → Tp base (w1.setCell ⟨tb, 1, none⟩ (.int .i64 ((vs.length : Int) + 1))) tb lim (vs ++ [x]) v' L' ∧ Same (fun b => b = tb ∨ v.ownBlock = some b) w (w1.setCell ⟨tb, 1, none⟩ (.int .i64 ((vs.length : Int) + 1)))) := fun w1 v' L' h1 h2 h3 h4 => by
    have hs : Same (fun b => b = tb) w1 (w1.setCell ⟨tb, 1, none⟩ (.int .i64 ((vs.length : Int) + 1))) := (Same.refl (fun b => b = tb) w1).setCell ⟨tb, 1, none⟩ (.inr rfl) _
    refine ⟨⟨?_, h.low, h2.kept hs fun b hb e => own_ne h2 h1 (by decide) (by rw [← e]; exact hb), h3, h.lim⟩, h4.trans hs fun b _ e => .inl e⟩
    rw [List.length_append]
    exact (setCell_at h1 1 _).trans rfl
  obtain ⟨kd, tm, tx, op, wit, key, wa, ex, gg, ob, fr, tt⟩ := x
  unfold vlV
  unfold vlO at H K HG
  unfold vlV at H
  unfold nbV at HH
  simp only at H HH HG K ⊢
  clear h
  obtain ⟨n, en⟩ : ∃ n, n = vs.length := ⟨_, rfl⟩
  have HN : Hid (n = vs.length) := en
  rw [← en] at HH HF hm
  clear en
  go_enter Try.func11, Try.ntmps11
  go_wp2_with fail
  refine Calls.mono (H.out _) ?_
  rintro r w1 ⟨rfl, rfl⟩
  generalize (w.alloc _).alloc _ = W at K HG ⊢
  obtain ⟨c0, c1, c2, c3, c4, c5, c6, c7, c8, c9, c10, c11⟩ := vl_cells (x := ⟨kd, tm, tx, op, wit, key, wa, ex, gg, ob, fr, tt⟩) HG.out
  simp only at c0 c1 c2 c3 c4 c5 c6 c7 c8 c9 c10 c11
  have hgx := lt_of_heap HG.out
  obtain ⟨gx, egx⟩ : ∃ gx, gx = w.heap.size := ⟨_, rfl⟩
  rw [← egx] at HG c0 c1 c2 c3 c4 c5 c6 c7 c8 c9 c10 c11 hgx ⊢
  have EGX : Hid (gx = w.heap.size) := egx
  clear egx
  have hot := (K.out.block tb (lt_of_heap HT.out.obj) (fun e => e)).trans HT.out.obj
  have t1 : W.cell? ⟨tb, 1, none⟩ = some (.int .i64 (n : Int)) := by rw [cell_of hot]; have e := HN.out; rw [e]; rfl
  have htb := lt_of_heap hot
  clear hot
  have hni : (n : Int) ≤ 4398046511104 := by omega
  go_wp2_with fail
  go_still_tail 7, (by kernel_rfl)
  go_wp2_with (go_at_call 24; refine Calls.mono (HH.out _ (by (repeat (first | exact K.out | apply Same.drew | apply Same.drewN)); done)) ?_; rintro r w2 ⟨rfl, v', L', o2, n2, d2, s2, b2⟩; have Q2 : Hid _ := And.intro o2 (And.intro n2 (And.intro d2 (And.intro s2 b2))); have t2 : w2.cell? ⟨tb, 1, none⟩ = some (.int .i64 (n : Int)) := (cell_of o2 1).trans rfl; have f2 : w2.frozen? ⟨tb, 1, none⟩ = false := frozen_of o2 1; have h2 := lt_of_heap o2; clear o2 n2 d2 s2 b2)
  go_ret
  obtain ⟨o2, n2, d2, s2, b2⟩ := Q2.out
  have s3 := (Kept.to (show Kept w _ by (repeat (first | exact K.out | apply Same.drew | apply Same.drewN)); done) (fun b => b = tb ∨ v.ownBlock = some b)).trans' s2
  obtain ⟨q1, q2⟩ := HF.out w2 v' L' o2 n2 d2 s3
  exact ⟨rfl, v', L', q1, q2, fun b hb => (b2 b hb).imp id fun e => Nat.le_trans (Same.size (S := fun _ => False) (w := w) (by (repeat (first | exact K.out | apply Same.drew | apply Same.drewN)); done)) e⟩
end Go.Proofs.Ytnfkjblhnpnaeaa
