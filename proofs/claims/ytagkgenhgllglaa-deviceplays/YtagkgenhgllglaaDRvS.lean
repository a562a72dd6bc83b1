/- What is proved: the law of the plays returns true and leaves what was there alone; the setup and the script lie in memory, within a machine's bounds. -/
import Derived.Test.YtagkgenhgllglaaDRvQ
import Derived.Test.YtagkgenhgllglaaDRvR
namespace Go.Proofs.Ytagkgenhgllglaa
open Go.RowKit

set_option maxRecDepth 100000 in
set_option maxHeartbeats 1600000 in
theorem plays_no (B S : Int) (ia ga fa : Option Addr) (ic gc fc : Nat) (l lg : List Int) (F : List Fl) (v : Value) (w : World) (hl : BytesAt w ia l) (hg : BytesAt w ga lg) (hF : FaultsAt w fa F) (hnl : ia = none → l.length = 0 ∧ ic = 0) (hng : ga = none → lg.length = 0 ∧ gc = 0) (hnf : fa = none → F.length = 0 ∧ fc = 0) (b1 : l.length ≤ 140737488355328) (b2 : lg.length ≤ 140737488355328) (b3 : F.length * 32 ≤ 140737488355328) (hc : chk B S l.length lg.length F ≠ 0) :
    Calls Try.prog 3 #[setupV B S ia ga fa l.length ic lg.length gc F.length fc, v] w fun e w' => e = .returned (.bool true) ∧ Kept w w' := by
  have hnot : ∀ (x : Bool) (w : World), (Op.unary .not (.bool x)).run Try.prog w = .ok (.bool (!x)) w := fun _ _ => rfl
  have hbx : (w.alloc (setupO B S ia ga fa l.length ic lg.length gc F.length fc)).heap[w.heap.size]? = some (setupO B S ia ga fa l.length ic lg.length gc F.length fc) := heap_new _ _
  have KW : Hid (Kept w (w.alloc (setupO B S ia ga fa l.length ic lg.length gc F.length fc))) := (Same.refl _ _).alloc _
  have hsz : w.heap.size < (w.alloc (setupO B S ia ga fa l.length ic lg.length gc F.length fc)).heap.size := by simp
  have HM : Hid (∀ W1, Kept w W1 → Calls Try.prog 7 #[setupV B S ia ga fa l.length ic lg.length gc F.length fc] W1 fun e w' => e = .returned (.tuple #[.pointer none, .pointer none, .bool true]) ∧ Kept W1 w') := fun W1 k =>
    made_no B S ia ga fa ic gc fc l lg F W1 (hl.kept k (fun _ _ h => h)) (hg.kept k (fun _ _ h => h)) (hF.kept k (fun _ _ h => h)) hnl hng hnf b1 b2 b3 hc
  unfold setupV at HM ⊢
  unfold setupO at hbx KW hsz
  generalize hW : w.alloc (.cells #[.int .i64 B, .int .i64 S, .slice ia l.length ic, .slice ga lg.length gc, .slice fa F.length fc] 25 (0, 0)) = W at hbx KW hsz
  have HA : Hid _ := anchor_any W
  have HBX : Hid (∀ W1, Kept W W1 → Kept W W1 ∧ W1.cell? ⟨w.heap.size, 0, none⟩ = some (.int .i64 B) ∧ W1.cell? ⟨w.heap.size, 1, none⟩ = some (.int .i64 S) ∧ W1.cell? ⟨w.heap.size, 2, none⟩ = some (.slice ia l.length ic) ∧ W1.cell? ⟨w.heap.size, 3, none⟩ = some (.slice ga lg.length gc) ∧ W1.cell? ⟨w.heap.size, 4, none⟩ = some (.slice fa F.length fc)) := fun W1 k => by
    have e := (k.block _ hsz (fun h => h)).trans hbx
    exact ⟨k, (cell_of e 0).trans rfl, (cell_of e 1).trans rfl, (cell_of e 2).trans rfl, (cell_of e 3).trans rfl, (cell_of e 4).trans rfl⟩
  clear hl hg hF hnl hng hnf b1 b2 b3 hc hbx
  go_enter Try.func3, Try.ntmps3
  go_wp2_with fail
  refine Calls.mono HA.out ?_
  rintro e w1 ⟨rfl, k1⟩
  obtain ⟨-, c0, c1, c2, c3, c4⟩ := HBX.out w1 k1
  have K1 : Hid _ := k1
  clear k1 hW
  go_wp2_with fail
  refine Calls.mono (HM.out _ (KW.out.trans' K1.out)) ?_
  rintro e w2 ⟨rfl, k2⟩
  go_wp2_with fail
  go_ret
  exact ⟨rfl, (KW.out.trans' K1.out).trans' k2⟩

set_option maxRecDepth 100000 in
set_option maxHeartbeats 1600000 in
theorem plays_yes (B S : Nat) (ia ga fa sa : Option Addr) (ic gc fc sc : Nat) (l lg : List Int) (F : List Fl) (ls : List St) (w : World) (hl : BytesAt w ia l) (hg : BytesAt w ga lg) (hF : FaultsAt w fa F) (hs : StepsAt w sa ls) (hnl : ia = none → l.length = 0 ∧ ic = 0) (hng : ga = none → lg.length = 0 ∧ gc = 0) (hnf : fa = none → F.length = 0 ∧ fc = 0) (b1 : l.length ≤ 140737488355328) (b2 : lg.length ≤ 140737488355328) (b3 : F.length * 32 ≤ 140737488355328) (b4 : ls.length * 40 ≤ 140737488355328) (hc : chk B S l.length lg.length F = 0) :
    Calls Try.prog 3 #[setupV B S ia ga fa l.length ic lg.length gc F.length fc, .slice sa ls.length sc] w fun e w' => e = .returned (.bool true) ∧ Kept w w' := by
  have hnot : ∀ (x : Bool) (w : World), (Op.unary .not (.bool x)).run Try.prog w = .ok (.bool (!x)) w := fun _ _ => rfl
  have hbx : (w.alloc (setupO B S ia ga fa l.length ic lg.length gc F.length fc)).heap[w.heap.size]? = some (setupO B S ia ga fa l.length ic lg.length gc F.length fc) := heap_new _ _
  have KW : Hid (Kept w (w.alloc (setupO B S ia ga fa l.length ic lg.length gc F.length fc))) := (Same.refl _ _).alloc _
  have hsz : w.heap.size < (w.alloc (setupO B S ia ga fa l.length ic lg.length gc F.length fc)).heap.size := by simp
  have HM : Hid (∀ W1, Kept w W1 → Calls Try.prog 7 #[setupV B S ia ga fa l.length ic lg.length gc F.length fc] W1 fun e w' => ∃ p q, e = .returned (.tuple #[.pointer (some ⟨p.db, 0, none⟩), .pointer (some ⟨q.db, 0, none⟩), .bool true]) ∧ Two W1.heap.size w' (M.made B S l lg F) p q [] ∧ Kept W1 w') := fun W1 k =>
    made_yes B S ia ga fa ic gc fc l lg F W1 (hl.kept k (fun _ _ h => h)) (hg.kept k (fun _ _ h => h)) (hF.kept k (fun _ _ h => h)) hnl hng hnf b1 b2 b3 hc
  have HP : Hid (∀ W1 p q, Two w.heap.size W1 (M.made B S l lg F) p q [] → Kept w W1 → Calls Try.prog 8 #[.pointer (some ⟨p.db, 0, none⟩), .pointer (some ⟨q.db, 0, none⟩), .slice sa ls.length sc] W1 fun e w' => e = .returned (.bool true) ∧ Kept w w') := fun W1 p q h k =>
    (play_any h sa sc ls hs (Same.mono k (fun _ _ h => h.elim)) (by simp only [List.length_nil]; omega) (by show 0 + 3 * ls.length + 1 < _; omega)).mono (by
      rintro e w' ⟨he, _, _, _, _, hL, _⟩
      exact ⟨he, Same.mono hL (fun k h1 h2 => Nat.lt_irrefl _ (Nat.lt_of_lt_of_le h1 h2))⟩)
  unfold setupV at HM ⊢
  unfold setupO at hbx KW hsz
  generalize hW : w.alloc (.cells #[.int .i64 B, .int .i64 S, .slice ia l.length ic, .slice ga lg.length gc, .slice fa F.length fc] 25 (0, 0)) = W at hbx KW hsz
  have HA : Hid _ := anchor_any W
  have HBX : Hid (∀ W1, Kept W W1 → Kept W W1 ∧ W1.cell? ⟨w.heap.size, 0, none⟩ = some (.int .i64 B) ∧ W1.cell? ⟨w.heap.size, 1, none⟩ = some (.int .i64 S) ∧ W1.cell? ⟨w.heap.size, 2, none⟩ = some (.slice ia l.length ic) ∧ W1.cell? ⟨w.heap.size, 3, none⟩ = some (.slice ga lg.length gc) ∧ W1.cell? ⟨w.heap.size, 4, none⟩ = some (.slice fa F.length fc)) := fun W1 k => by
    have e := (k.block _ hsz (fun h => h)).trans hbx
    exact ⟨k, (cell_of e 0).trans rfl, (cell_of e 1).trans rfl, (cell_of e 2).trans rfl, (cell_of e 3).trans rfl, (cell_of e 4).trans rfl⟩
  clear hl hg hF hs hnl hng hnf b1 b2 b3 b4 hc hbx
  go_enter Try.func3, Try.ntmps3
  go_wp2_with fail
  refine Calls.mono HA.out ?_
  rintro e w1 ⟨rfl, k1⟩
  obtain ⟨-, c0, c1, c2, c3, c4⟩ := HBX.out w1 k1
  have K1 : Hid _ := k1
  clear k1 hW
  go_wp2_with fail
  refine Calls.mono (HM.out _ (KW.out.trans' K1.out)) ?_
  rintro e w2 ⟨p, q, rfl, h2, k2⟩
  have H2 : Hid (Two w.heap.size w2 (M.made B S l lg F) p q []) := ⟨h2.d, h2.r, h2.a1, h2.a2, fun k h => Nat.le_trans (KW.out.trans' K1.out).size (h2.b1 k h), fun k h => Nat.le_trans (KW.out.trans' K1.out).size (h2.b2 k h)⟩
  have K2 : Hid (Kept w w2) := (KW.out.trans' K1.out).trans' k2
  clear h2 k2 c0 c1 c2 c3 c4
  go_wp2_with fail
  refine Calls.mono (HP.out _ _ _ H2.out K2.out) ?_
  rintro e w3 ⟨rfl, k3⟩
  go_wp2_with fail
  go_ret
  exact ⟨rfl, k3⟩
end Go.Proofs.Ytagkgenhgllglaa
