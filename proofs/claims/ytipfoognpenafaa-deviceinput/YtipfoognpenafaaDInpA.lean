/- What is proved: DeviceInput returns true where New refuses; the arguments lie in memory. -/
import Derived.Test.YtipfoognpenafaaDSet
namespace Go.Proofs.Ytipfoognpenafaa
open Go.RowKit

set_option maxRecDepth 100000 in
set_option maxHeartbeats 800000 in
theorem input_no (B S : Int) (ia ga fa : Option Addr) (ic gc nf fc : Nat) (sv : Value) (l lg : List Int) (w : World) (hl : BytesAt w ia l) (hg : BytesAt w ga lg) (hnl : ia = none → l.length = 0 ∧ ic = 0) (hng : ga = none → lg.length = 0 ∧ gc = 0)
    (b1 : l.length ≤ 140737488355328) (b2 : lg.length ≤ 140737488355328) (hc : chk B S l.length lg.length [] ≠ 0) :
    Calls Try.prog 4 #[setupV B S ia ga fa l.length ic lg.length gc nf fc, sv] w fun e w' => e = .returned (.bool true) ∧ Kept w w' := by
  have hnot : ∀ (x : Bool) (w : World), (Op.unary .not (.bool x)).run Try.prog w = .ok (.bool (!x)) w := fun _ _ => rfl
  have HB0 : Hid ((w.alloc (setupO B S ia ga fa l.length ic lg.length gc nf fc)).heap[w.heap.size]? = some (setupO B S ia ga fa l.length ic lg.length gc nf fc)) := heap_new w _
  have HA : Hid (∀ w', _) := fun w' => anchor_any w'
  have hcc : chk B S l.length lg.length [] != 0 := by simpa using hc
  have CI : Hid (∀ w1 (b : Addr), Kept w w1 → ∀ ty, ∃ v' w', (Builtin.append_ #[22, 22] ty #[.slice (some b) 0 0, .slice ia l.length ic]).run Try.prog w1 = .ok v' w' ∧ CloneB w1 l v' w') := fun w1 b k1 ty => clone_at b (hl.kept k1 (fun _ _ h => h)) hnl b1 ty
  have CG : Hid (∀ w1 (b : Addr), Kept w w1 → ∀ ty, ∃ v' w', (Builtin.append_ #[22, 22] ty #[.slice (some b) 0 0, .slice ga lg.length gc]).run Try.prog w1 = .ok v' w' ∧ CloneB w1 lg v' w') := fun w1 b k1 ty => clone_at b (hg.kept k1 (fun _ _ h => h)) hng b2 ty
  have HN : Hid (∀ w5 a3 c3 a4 c4, Kept w w5 → Calls Try.prog 12 #[.agg #[.int .i64 B, .int .i64 S], .slice a3 l.length c3, .slice a4 lg.length c4, .slice none 0 0] w5 fun e w6 => e = .returned (.tuple #[.pointer none, .int .i64 (chk B S l.length lg.length [])]) ∧ Kept w5 w6) := fun w5 a3 c3 a4 c4 _ => new_no B S a3 a4 none l.length c3 lg.length c4 0 [] w5 (FaultsAt.nil _ _) (by simp) (by omega) (by omega) hc
  obtain ⟨cc, ecc⟩ : ∃ c, c = chk B S l.length lg.length [] := ⟨_, rfl⟩
  rw [← ecc] at hcc HN
  clear hl hg hnl hng b1 b2 hc ecc
  unfold setupV
  go_enter Try.func4, Try.ntmps4
  go_wp2_with fail
  refine Calls.mono (HA.out _) ?_
  rintro e w2 ⟨rfl, k2⟩
  have k02 : Kept w w2 := ((Same.refl _ w).alloc _).trans' k2
  have HBX : Hid (∀ w3, Kept w w3 ∧ Kept w2 w3 → (Kept w w3 ∧ Kept w2 w3) ∧ w3.cell? ⟨w.heap.size, 0, none⟩ = some (.int .i64 B) ∧ w3.cell? ⟨w.heap.size, 1, none⟩ = some (.int .i64 S) ∧ w3.cell? ⟨w.heap.size, 2, none⟩ = some (.slice ia l.length ic) ∧ w3.cell? ⟨w.heap.size, 3, none⟩ = some (.slice ga lg.length gc)) := fun w3 k3 => by
    obtain ⟨x0, x1, x2, x3, x4⟩ := setup_cells (((k2.trans' k3.2).block _ (by simp) (fun h => h)).trans HB0.out)
    exact ⟨k3, x0, x1, x2, x3⟩
  clear HA k2
  go_wp2_with fail
  go_cut [5, 6] (fun s7 s8 wx => s7 = .pointer none ∧ s8 = .int .i64 cc ∧ Kept w wx)
  case first =>
    go_region_held3 (fun w' => (Kept w w' ∧ Kept w2 w') ∧ w'.cell? ⟨w.heap.size, 0, none⟩ = some (.int .i64 B) ∧ w'.cell? ⟨w.heap.size, 1, none⟩ = some (.int .i64 S) ∧ w'.cell? ⟨w.heap.size, 2, none⟩ = some (.slice ia l.length ic) ∧ w'.cell? ⟨w.heap.size, 3, none⟩ = some (.slice ga lg.length gc))
      (exact HBX.out _ ⟨(by (repeat (first | exact k02 | exact Same.refl _ _ | apply Same.alloc | apply Same.drew | refine Same.trans' ?_ kx3 | refine Same.trans' ?_ ky4 | refine Same.trans' ?_ kn)); done), (by (repeat (first | exact k02 | exact Same.refl _ _ | apply Same.alloc | apply Same.drew | refine Same.trans' ?_ kx3 | refine Same.trans' ?_ ky4 | refine Same.trans' ?_ kn)); done)⟩)
      (first
        | (go_at_call 12; refine Calls.mono (HN.out _ _ _ _ _ (by (repeat (first | exact k02 | exact Same.refl _ _ | apply Same.alloc | apply Same.drew | refine Same.trans' ?_ kx3 | refine Same.trans' ?_ ky4 | refine Same.trans' ?_ kn)); done)) ?_; rintro e w6 ⟨rfl, kn⟩)
        | (refine step_app rfl (.tmp 21) (.tmp 23) 22 rfl (.slice (some ⟨_, 0, none⟩) 0 0) (.slice ia l.length ic) rfl rfl _ (CI.out _ _ (by (repeat (first | exact k02 | exact Same.refl _ _ | apply Same.alloc | apply Same.drew | refine Same.trans' ?_ kx3 | refine Same.trans' ?_ ky4 | refine Same.trans' ?_ kn)); done)) ?_; rintro v3 w3 ⟨a3, c3, rfl, b3, cap3, nil3, fr3, kx3⟩)
        | (refine step_app rfl (.tmp 25) (.tmp 27) 22 rfl (.slice (some ⟨_, 0, none⟩) 0 0) (.slice ga lg.length gc) rfl rfl _ (CG.out _ _ (by (repeat (first | exact k02 | exact Same.refl _ _ | apply Same.alloc | apply Same.drew | refine Same.trans' ?_ kx3 | refine Same.trans' ?_ ky4 | refine Same.trans' ?_ kn)); done)) ?_; rintro v4 w4 ⟨a4, c4, rfl, b4, cap4, nil4, fr4, ky4⟩))
    all_goals
      go_wp2_with fail
      go_meet
      exact ⟨rfl, rfl, (by (repeat (first | exact k02 | exact Same.refl _ _ | apply Same.alloc | apply Same.drew | refine Same.trans' ?_ kx3 | refine Same.trans' ?_ ky4 | refine Same.trans' ?_ kn)); done)⟩
  case rest =>
    obtain ⟨rfl, rfl, kc⟩ := hcut
    go_wp2_with fail
    go_ret
    exact ⟨rfl, kc⟩
end Go.Proofs.Ytipfoognpenafaa
