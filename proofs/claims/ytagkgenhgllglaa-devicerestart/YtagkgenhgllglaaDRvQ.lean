/- What is proved: the law's made makes both devices, alike, or none where New refuses; the setup lies in memory. -/
import Derived.Test.YtagkgenhgllglaaDRvP
namespace Go.Proofs.Ytagkgenhgllglaa
open Go.RowKit

set_option maxRecDepth 100000 in
set_option maxHeartbeats 3200000 in
theorem made_no (B S : Int) (ia ga fa : Option Addr) (ic gc fc : Nat) (l lg : List Int) (F : List Fl) (w : World) (hl : BytesAt w ia l) (hg : BytesAt w ga lg) (hF : FaultsAt w fa F) (hnl : ia = none → l.length = 0 ∧ ic = 0) (hng : ga = none → lg.length = 0 ∧ gc = 0) (hnf : fa = none → F.length = 0 ∧ fc = 0) (b1 : l.length ≤ 140737488355328) (b2 : lg.length ≤ 140737488355328) (b3 : F.length * 32 ≤ 140737488355328) (hc : chk B S l.length lg.length F ≠ 0) :
    Calls Try.prog 7 #[setupV B S ia ga fa l.length ic lg.length gc F.length fc] w fun e w' => e = .returned (.tuple #[.pointer none, .pointer none, .bool true]) ∧ Kept w w' := by
  have hbx : (w.alloc (setupO B S ia ga fa l.length ic lg.length gc F.length fc)).heap[w.heap.size]? = some (setupO B S ia ga fa l.length ic lg.length gc F.length fc) := heap_new _ _
  have KW : Hid (Kept w (w.alloc (setupO B S ia ga fa l.length ic lg.length gc F.length fc))) := (Same.refl _ _).alloc _
  have hsz : w.heap.size < (w.alloc (setupO B S ia ga fa l.length ic lg.length gc F.length fc)).heap.size := by simp
  obtain ⟨cc, ecc⟩ : ∃ cc, cc = chk B S l.length lg.length F := ⟨_, rfl⟩
  have ECC : Hid _ := ecc
  unfold setupV
  unfold setupO at hbx KW hsz
  generalize hW : w.alloc (.cells #[.int .i64 B, .int .i64 S, .slice ia l.length ic, .slice ga lg.length gc, .slice fa F.length fc] 25 (0, 0)) = W at hbx KW hsz
  have HBW : Hid _ := hbx
  have CI : Hid (∀ w1 (b : Addr), Kept W w1 → ∀ ty, ∃ v' w', (Builtin.append_ #[22, 22] ty #[.slice (some b) 0 0, .slice ia l.length ic]).run Try.prog w1 = .ok v' w' ∧ CloneB w1 l v' w') := fun w1 b k1 ty => clone_at b ((hl.kept KW.out (fun _ _ h => h)).kept k1 (fun _ _ h => h)) hnl b1 ty
  have CG : Hid (∀ w1 (b : Addr), Kept W w1 → ∀ ty, ∃ v' w', (Builtin.append_ #[22, 22] ty #[.slice (some b) 0 0, .slice ga lg.length gc]).run Try.prog w1 = .ok v' w' ∧ CloneB w1 lg v' w') := fun w1 b k1 ty => clone_at b ((hg.kept KW.out (fun _ _ h => h)).kept k1 (fun _ _ h => h)) hng b2 ty
  have CF : Hid (∀ w1 (b : Addr), Kept W w1 → ∀ ty, ∃ v' w', (Builtin.append_ #[23, 23] ty #[.slice (some b) 0 0, .slice fa F.length fc]).run Try.prog w1 = .ok v' w' ∧ CloneF w1 F v' w') := fun w1 b k1 ty => clone_atF Try.underlying23 Try.infoFault b ((hF.kept KW.out (fun _ _ h => h)).kept k1 (fun _ _ h => h)) hnf b3 ty
  have HN : Hid (∀ W1 a3 c3 a4 c4 a5 c5, Kept W W1 → BytesAt W1 a3 l → (a3 = none → l.length = 0 ∧ c3 = 0) → BytesAt W1 a4 lg → FaultsAt W1 a5 F → (a5 = none → F.length = 0 ∧ c5 = 0) → Calls Try.prog 12 #[.agg #[.int .i64 B, .int .i64 S], .slice a3 l.length c3, .slice a4 lg.length c4, .slice a5 F.length c5] W1 fun e w' => e = .returned (.tuple #[.pointer none, .int .i64 cc]) ∧ Kept W1 w') := fun W1 a3 c3 a4 c4 a5 c5 _ _ _ _ h5 _ => by
    rw [ecc]
    exact new_no B S a3 a4 a5 l.length c3 lg.length c4 c5 F W1 h5 (by omega) (by omega) (by omega) hc
  have HFA : Hid (∀ W1, Kept W W1 → Calls Try.prog 20 #[.slice fa F.length fc] W1 fun e w' => FOwn W1 F e w') := fun W1 k => faults_any F fa fc W1 ((hF.kept KW.out (fun _ _ h => h)).kept k (fun _ _ h => h)) b3
  have HCK : Hid (∀ W1 a c, FaultsAt W1 a F → Calls Try.prog 19 #[.int .i64 B, .int .i64 S, .int .i64 (l.length : Nat), .int .i64 (lg.length : Nat), .slice a F.length c] W1 fun e w' => e = .returned (.int .i64 cc) ∧ Kept W1 w') := fun W1 a c h => by rw [ecc]; exact rcheck_any B S l.length lg.length a c F W1 h (by omega)
  have HBX : Hid (∀ W1, Kept W W1 → Kept W W1 ∧ W1.cell? ⟨w.heap.size, 0, none⟩ = some (.int .i64 B) ∧ W1.cell? ⟨w.heap.size, 1, none⟩ = some (.int .i64 S) ∧ W1.cell? ⟨w.heap.size, 2, none⟩ = some (.slice ia l.length ic) ∧ W1.cell? ⟨w.heap.size, 3, none⟩ = some (.slice ga lg.length gc) ∧ W1.cell? ⟨w.heap.size, 4, none⟩ = some (.slice fa F.length fc)) := fun W1 k => by
    have e := (k.block _ hsz (fun h => h)).trans HBW.out
    exact ⟨k, (cell_of e 0).trans rfl, (cell_of e 1).trans rfl, (cell_of e 2).trans rfl, (cell_of e 3).trans rfl, (cell_of e 4).trans rfl⟩
  have HNC : Hid (chk B S l.length lg.length F ≠ 0) := hc
  clear hl hg hF hnl hng hnf b1 b2 b3 hc ecc hbx
  go_enter Try.func7, Try.ntmps7
  go_upto_region 1 with fail
  clear hW
  go_cut [2, 5] (fun s2 s5 wx => s2 = .pointer none ∧ s5 = .int .i64 cc ∧ Kept W wx)
  case first =>
    go_region_held3 (fun w' => Kept W w' ∧ w'.cell? ⟨w.heap.size, 0, none⟩ = some (.int .i64 B) ∧ w'.cell? ⟨w.heap.size, 1, none⟩ = some (.int .i64 S) ∧ w'.cell? ⟨w.heap.size, 2, none⟩ = some (.slice ia l.length ic) ∧ w'.cell? ⟨w.heap.size, 3, none⟩ = some (.slice ga lg.length gc) ∧ w'.cell? ⟨w.heap.size, 4, none⟩ = some (.slice fa F.length fc))
      (exact HBX.out _ (by (repeat (first | exact Same.refl _ _ | apply Same.alloc | apply Same.drew | refine Same.trans' ?_ kx3 | refine Same.trans' ?_ ky4 | refine Same.trans' ?_ kz5 | refine Same.trans' ?_ kn)); done))
      (first
        | (go_at_call 12; refine Calls.mono (HN.out _ _ _ _ _ _ _ (by (repeat (first | exact Same.refl _ _ | apply Same.alloc | apply Same.drew | refine Same.trans' ?_ kx3 | refine Same.trans' ?_ ky4 | refine Same.trans' ?_ kz5 | refine Same.trans' ?_ kn)); done) (BytesAt.kept (S := fun _ => False) b3 (by (repeat (first | exact Same.refl _ _ | apply Same.alloc | apply Same.drew | refine Same.trans' ?_ kx3 | refine Same.trans' ?_ ky4 | refine Same.trans' ?_ kz5 | refine Same.trans' ?_ kn)); done) (fun _ _ h => h)) nil3 (BytesAt.kept (S := fun _ => False) b4 (by (repeat (first | exact Same.refl _ _ | apply Same.alloc | apply Same.drew | refine Same.trans' ?_ kx3 | refine Same.trans' ?_ ky4 | refine Same.trans' ?_ kz5 | refine Same.trans' ?_ kn)); done) (fun _ _ h => h)) (FaultsAt.kept (S := fun _ => False) b5 (by (repeat (first | exact Same.refl _ _ | apply Same.alloc | apply Same.drew | refine Same.trans' ?_ kx3 | refine Same.trans' ?_ ky4 | refine Same.trans' ?_ kz5 | refine Same.trans' ?_ kn)); done) (fun _ _ h => h)) nil5) ?_; rintro e w6 ⟨rfl, kn⟩)
        | (refine step_app rfl (.tmp 13) (.tmp 15) 22 rfl (.slice (some ⟨_, 0, none⟩) 0 0) (.slice ia l.length ic) rfl rfl _ (CI.out _ _ (by (repeat (first | exact Same.refl _ _ | apply Same.alloc | apply Same.drew | refine Same.trans' ?_ kx3 | refine Same.trans' ?_ ky4 | refine Same.trans' ?_ kz5 | refine Same.trans' ?_ kn)); done)) ?_; rintro v3 w3 ⟨a3, c3, rfl, b3, cap3, nil3, fr3, kx3⟩)
        | (refine step_app rfl (.tmp 17) (.tmp 19) 22 rfl (.slice (some ⟨_, 0, none⟩) 0 0) (.slice ga lg.length gc) rfl rfl _ (CG.out _ _ (by (repeat (first | exact Same.refl _ _ | apply Same.alloc | apply Same.drew | refine Same.trans' ?_ kx3 | refine Same.trans' ?_ ky4 | refine Same.trans' ?_ kz5 | refine Same.trans' ?_ kn)); done)) ?_; rintro v4 w4 ⟨a4, c4, rfl, b4, cap4, nil4, fr4, ky4⟩)
        | (refine step_app rfl (.tmp 21) (.tmp 23) 23 rfl (.slice (some ⟨_, 0, none⟩) 0 0) (.slice fa F.length fc) rfl rfl _ (CF.out _ _ (by (repeat (first | exact Same.refl _ _ | apply Same.alloc | apply Same.drew | refine Same.trans' ?_ kx3 | refine Same.trans' ?_ ky4 | refine Same.trans' ?_ kz5 | refine Same.trans' ?_ kn)); done)) ?_; rintro v5 w5 ⟨a5, c5, rfl, b5, nil5, fr5, kz5⟩))
    all_goals
      go_wp2_with fail
      go_meet
      exact ⟨rfl, rfl, (by (repeat (first | exact Same.refl _ _ | apply Same.alloc | apply Same.drew | refine Same.trans' ?_ kx3 | refine Same.trans' ?_ ky4 | refine Same.trans' ?_ kz5 | refine Same.trans' ?_ kn)); done)⟩
  case rest =>
    obtain ⟨rfl, rfl, kc1⟩ := hcut
    have KC1 : Hid _ := kc1
    have hcz : (cc == 0) = false := by rw [ECC.out]; simpa using (show ¬ chk B S l.length lg.length F = 0 from HNC.out)
    have hcn : cc ≠ 0 := by rw [ECC.out]; exact HNC.out
    have hnb : (!cc != 0) = false := by simpa using hcn
    clear kc1
    go_upto_region 2 with fail
    go_cut [6] (fun s6 wx => s6 = .int .i64 cc ∧ Kept wc wx)
    case first =>
      go_region_held3 (fun w' => Kept wc w' ∧ w'.cell? ⟨w.heap.size, 0, none⟩ = some (.int .i64 B) ∧ w'.cell? ⟨w.heap.size, 1, none⟩ = some (.int .i64 S) ∧ w'.cell? ⟨w.heap.size, 2, none⟩ = some (.slice ia l.length ic) ∧ w'.cell? ⟨w.heap.size, 3, none⟩ = some (.slice ga lg.length gc) ∧ w'.cell? ⟨w.heap.size, 4, none⟩ = some (.slice fa F.length fc))
        (exact ⟨(by (repeat (first | exact Same.refl _ _ | apply Same.alloc | apply Same.drew | refine Same.trans' ?_ kf | refine Same.trans' ?_ kc)); done), (HBX.out _ (KC1.out.trans' (by (repeat (first | exact Same.refl _ _ | apply Same.alloc | apply Same.drew | refine Same.trans' ?_ kf | refine Same.trans' ?_ kc)); done))).2⟩)
        (first
          | (go_at_call 20; refine Calls.mono (HFA.out _ (KC1.out.trans' (by (repeat (first | exact Same.refl _ _ | apply Same.alloc | apply Same.drew | refine Same.trans' ?_ kf | refine Same.trans' ?_ kc)); done))) ?_; rintro e w7 ⟨a7, c7, rfl, b7, nil7, fr7, kf⟩)
          | (go_at_call 19; refine Calls.mono (HCK.out _ a7 c7 (FaultsAt.kept (S := fun _ => False) b7 (by (repeat (first | exact Same.refl _ _ | apply Same.alloc | apply Same.drew | refine Same.trans' ?_ kf | refine Same.trans' ?_ kc)); done) (fun _ _ h => h))) ?_; rintro e w8 ⟨rfl, kc⟩))
      all_goals
        go_wp2_with fail
        go_meet
        exact ⟨rfl, (by (repeat (first | exact Same.refl _ _ | apply Same.alloc | apply Same.drew | refine Same.trans' ?_ kf | refine Same.trans' ?_ kc)); done)⟩
    case rest =>
      obtain ⟨rfl, kc2⟩ := hcut
      go_wp2_with fail
      go_ret3
      exact ⟨rfl, (KW.out.trans' KC1.out).trans' kc2⟩
end Go.Proofs.Ytagkgenhgllglaa
