/- What is proved: the laws' copied: an outcome whose list lies in memory of its own; condition: the list's length. -/
import Derived.Test.YtfhaiklfbnfdlaaDoorVrE
import Derived.Test.YtfhaiklfbnfdlaaDoorRoM
namespace Go.Proofs.YtfhaiklfbnfdlaaDoor
open Go.RowKit

theorem copied_step {w W2 w4 W5 : World} {kd cd off tn tt : Int} {a a4 : Option Addr} {cap c4' : Nat} {ls : List Vi.Vl} (e5 : w4.setCell ⟨w.heap.size, 5, none⟩ (.slice a4 ls.length c4') = W5) (hS : W2.heap.size = w.heap.size + 2) (o4 : OwV W2.heap.size w4 (.slice a4 ls.length c4') ls) (k4 : Kept W2 w4)
    (B4 : w4.heap[w.heap.size]? = some (.cells #[.int .i64 kd, .int .i64 cd, .int .i64 off, .int .i64 tn, .int .i64 tt, .slice a ls.length cap] 25 (0, 0))) (BB : W2.heap[w.heap.size + 1]? = some (.cells #[.int .i64 0, .int .i64 0, .int .i64 0, .int .i64 0, .int .i64 0, .slice none 0 0] 25 (0, 0))) (K2 : Kept w W2) :
    (W5.heap[w.heap.size]? = some (.cells #[.int .i64 kd, .int .i64 cd, .int .i64 off, .int .i64 tn, .int .i64 tt, .slice a4 ls.length c4'] 25 (0, 0))) ∧ (W5.heap[w.heap.size + 1]? = some (.cells #[.int .i64 0, .int .i64 0, .int .i64 0, .int .i64 0, .int .i64 0, .slice none 0 0] 25 (0, 0))) ∧ Kept w W5 ∧ OwV (w.heap.size + 2) W5 (.slice a4 ls.length c4') ls := by
  have k5 : Same (fun j => j = w.heap.size) w4 W5 := by rw [← e5]; exact (Same.refl (fun j => j = w.heap.size) w4).setCell _ (.inr rfl) _
  have h9 : OwV (w.heap.size + 2) w4 (.slice a4 ls.length c4') ls := Vi.Own.base o4 (by omega)
  refine ⟨by rw [← e5]; exact (setCell_at B4 5 _).trans (by simp), ?_, Same.trans (K2.trans' k4) k5 (fun i hi e => by omega), Vi.Own.kept h9 k5 (fun b hb e => by have := (Vi.Own.block h9 hb).1; omega)⟩
  exact (k5.block _ (Nat.lt_of_lt_of_le (lt_of_heap BB) k4.size) (by omega)).trans ((k4.block _ (lt_of_heap BB) (fun e => e)).trans BB)
set_option maxRecDepth 100000 in
theorem copied_any22 (w : World) (o : OuM) (a : Option Addr) (cap : Nat) (h : Vi.At Vi.vl1 12 w a o.ls) (hn : a = none → o.ls.length = 0 ∧ cap = 0) (hlen : o.ls.length ≤ 1172812402961) :
    Calls Tryd.prog 10 #[ouV o (.slice a o.ls.length cap)] w fun e w' => ∃ a' c', e = .returned (ouV o (.slice a' o.ls.length c')) ∧ OwV w.heap.size w' (.slice a' o.ls.length c') o.ls ∧ Kept w w' := by
  have HC : Hid (∀ W, Kept w W → ∀ ty, _) := fun W (q : Kept w W) ty => Vi.copy_own (c := cap) Vi.ekV Tryd.underlying23 Vi.Tryd.infoViol rfl (h.on q) hn (by omega) (by unfold maxLen; omega) ty
  clear h hn hlen
  obtain ⟨kd, cd, off, tn, tt, ls⟩ := o
  unfold ouV
  dsimp only at HC ⊢
  obtain ⟨W2, e2⟩ : ∃ W2, W2 = (w.alloc (.cells #[.int .i64 kd, .int .i64 cd, .int .i64 off, .int .i64 tn, .int .i64 tt, .slice a ls.length cap] 25 (0, 0))).alloc (.cells ouz 25 (0, 0)) := ⟨_, rfl⟩
  have K2 : Hid (Kept w W2) := by rw [e2]; exact ((Same.refl _ w).alloc _).alloc _
  have BA : Hid (W2.heap[w.heap.size]? = some (.cells #[.int .i64 kd, .int .i64 cd, .int .i64 off, .int .i64 tn, .int .i64 tt, .slice a ls.length cap] 25 (0, 0))) := by rw [e2]; exact (two_new w _ _).1
  have BB : Hid (W2.heap[w.heap.size + 1]? = some (.cells ouz 25 (0, 0))) := by rw [e2]; exact (two_new w _ _).2
  have S2 : Hid (W2.heap.size = w.heap.size + 2) := by rw [e2]; show _ = _; simp
  unfold ouz at BB e2
  go_enter Tryd.func10, Tryd.ntmps10
  go_upto_region 1 with fail
  rw [← e2]
  clear e2
  obtain ⟨c0, c1, c2, c3, c4, c5⟩ := ou_obj BA.out
  have lc := lt_of_heap BA.out
  have ld := lt_of_heap BB.out
  have HCW : Hid (∀ ty, _) := HC.out W2 K2.out
  have gf := frozen_of BA.out 5
  go_wp2_with (at_builtin; refine wpList_app rfl (.tmp 3) (.tmp 5) 23 23 rfl (.slice (some ⟨W2.heap.size, 0, none⟩) 0 0) (.slice a ls.length cap) rfl rfl _ HCW.out ?_; rintro v4 w4 ⟨o4, k4⟩; have R4 : Hid (OwV W2.heap.size w4 v4 ls ∧ Kept W2 w4) := ⟨o4, k4⟩; obtain ⟨a4, c4', e4, -⟩ := o4.shape; subst e4; clear o4 k4; obtain ⟨W5, e5⟩ : ∃ W5, w4.setCell ⟨w.heap.size, 5, none⟩ (.slice a4 ls.length c4') = W5 := ⟨_, rfl⟩; have B4 : Hid (w4.heap[w.heap.size]? = some (.cells #[.int .i64 kd, .int .i64 cd, .int .i64 off, .int .i64 tn, .int .i64 tt, .slice a ls.length cap] 25 (0, 0))) := (R4.out.2.block _ (lt_of_heap BA.out) (fun e => e)).trans BA.out; obtain ⟨B5, D5, K5, O5⟩ := copied_step e5 S2.out R4.out.1 R4.out.2 B4.out BB.out K2.out; have B5 : Hid _ := B5; have D5 : Hid _ := D5; have K5 : Hid _ := K5; have O5 : Hid _ := O5; clear c0 c1 c2 c3 c4 c5 lc ld gf; have g5' := frozen_of B4.out 5; have l4 := lt_of_heap B4.out; have x5 : w4.cell? ⟨w.heap.size, 5, none⟩ = some (.slice a ls.length cap) := (cell_of B4.out 5).trans rfl; clear R4 BA BB K2 B4 HCW HC; obtain ⟨c0, c1, c2, c3, c4, c5⟩ := ou_obj B5.out; obtain ⟨q0, q1, q2, q3, q4, q5⟩ := ou_obj D5.out; have g0 := frozen_of D5.out 0; have g1 := frozen_of D5.out 1; have g2 := frozen_of D5.out 2; have g3 := frozen_of D5.out 3; have g4 := frozen_of D5.out 4; have g5 := frozen_of D5.out 5; have lq := lt_of_heap D5.out; have ld := lt_of_heap B5.out)
  refine bodyPost_ret (results_c1 (a := 2) (t := 25) rfl rfl (loadVar_ou (put6o_at D5.out _ _ _ _ _ _))) rfl ?_
  have k9' := put6o_same W5 (w.heap.size + 1) (.int .i64 kd) (.int .i64 cd) (.int .i64 off) (.int .i64 tn) (.int .i64 tt) (.slice a4 ls.length c4')
  refine ⟨a4, c4', rfl, ?_, Same.trans K5.out k9' (fun i hi e => by omega)⟩
  exact Vi.Own.base (Vi.Own.kept O5.out k9' (fun b hb e => by have := (Vi.Own.block O5.out hb).1; omega)) (by omega)
end Go.Proofs.YtfhaiklfbnfdlaaDoor
