/- What is proved: the law's made makes both devices, alike, where New takes the setup; the setup lies in memory. -/
import Derived.Test.YtagkgenhgllglaaDRvP
namespace Go.Proofs.Ytagkgenhgllglaa
open Go.RowKit

set_option maxRecDepth 100000 in
set_option maxHeartbeats 3200000 in
theorem made_yes (B S : Nat) (ia ga fa : Option Addr) (ic gc fc : Nat) (l lg : List Int) (F : List Fl) (w : World) (hl : BytesAt w ia l) (hg : BytesAt w ga lg) (hF : FaultsAt w fa F) (hnl : ia = none → l.length = 0 ∧ ic = 0) (hng : ga = none → lg.length = 0 ∧ gc = 0) (hnf : fa = none → F.length = 0 ∧ fc = 0) (b1 : l.length ≤ 140737488355328) (b2 : lg.length ≤ 140737488355328) (b3 : F.length * 32 ≤ 140737488355328) (hc : chk B S l.length lg.length F = 0) :
    Calls Try.prog 7 #[setupV B S ia ga fa l.length ic lg.length gc F.length fc] w fun e w' => ∃ p q, e = .returned (.tuple #[.pointer (some ⟨p.db, 0, none⟩), .pointer (some ⟨q.db, 0, none⟩), .bool true]) ∧ Two w.heap.size w' (M.made B S l lg F) p q [] ∧ Kept w w' := by
  have hbx : (w.alloc (setupO B S ia ga fa l.length ic lg.length gc F.length fc)).heap[w.heap.size]? = some (setupO B S ia ga fa l.length ic lg.length gc F.length fc) := heap_new _ _
  have KW : Hid (Kept w (w.alloc (setupO B S ia ga fa l.length ic lg.length gc F.length fc))) := (Same.refl _ _).alloc _
  have hsz : w.heap.size < (w.alloc (setupO B S ia ga fa l.length ic lg.length gc F.length fc)).heap.size := by simp
  obtain ⟨cc, ecc⟩ : ∃ cc, cc = chk B S l.length lg.length F := ⟨_, rfl⟩
  have ECC : Hid _ := ecc
  unfold setupV
  unfold setupO at hbx KW hsz
  generalize hW : w.alloc (.cells #[.int .i64 B, .int .i64 S, .slice ia l.length ic, .slice ga lg.length gc, .slice fa F.length fc] 25 (0, 0)) = W at hbx KW hsz
  have HBW : Hid _ := hbx
  have CI : Hid (∀ w1 (b : Addr), Kept W w1 → ∀ ty, ∃ v' w', (Builtin.append_ #[22, 22] ty #[.slice (some b) 0 0, .slice ia l.length ic]).run Try.prog w1 = .ok v' w' ∧ CloneB w1 l v' w') := fun w1 b k1 ty => clone_at b ((hl.kept KW.out (fun _ _ h => h)).kept k1 (fun _ _ h => h)) hnl b1 ty
  have CG : Hid (∀ w1 (b : Addr), Kept W w1 → ∀ ty, ∃ v' w', (Builtin.append_ #[22, 22] ty #[.slice (some b) 0 0, .slice ga lg.length gc]).run Try.prog w1 = .ok v' w' ∧ CloneB w1 lg v' w') := fun w1 b k1 ty => clone_at b ((hg.kept KW.out (fun _ _ h => h)).kept k1 (fun _ _ h => h)) hng b2 ty
  have CF : Hid (∀ w1 (b : Addr), Kept W w1 → ∀ ty, ∃ v' w', (Builtin.append_ #[23, 23] ty #[.slice (some b) 0 0, .slice fa F.length fc]).run Try.prog w1 = .ok v' w' ∧ CloneF w1 F v' w') := fun w1 b k1 ty => clone_atF Try.underlying23 Try.infoFault b ((hF.kept KW.out (fun _ _ h => h)).kept k1 (fun _ _ h => h)) hnf b3 ty
  have HN : Hid (∀ W1 a3 c3 a4 c4 a5 c5, Kept W W1 → BytesAt W1 a3 l → (a3 = none → l.length = 0 ∧ c3 = 0) → BytesAt W1 a4 lg → FaultsAt W1 a5 F → (a5 = none → F.length = 0 ∧ c5 = 0) → Calls Try.prog 12 #[.agg #[.int .i64 B, .int .i64 S], .slice a3 l.length c3, .slice a4 lg.length c4, .slice a5 F.length c5] W1 fun e w' => ∃ p, e = .returned (.tuple #[.pointer (some ⟨p.db, 0, none⟩), .int .i64 0]) ∧ Dv w' (M.made B S l lg F) p ∧ (∀ k, Foot (M.made B S l lg F) p k → W1.heap.size ≤ k) ∧ Kept W1 w') := fun W1 a3 c3 a4 c4 a5 c5 _ h3 n3 h4 h5 n5 => new_yes B S a3 a4 a5 c3 c4 c5 l lg F W1 h3 h4 h5 n3 n5 hc
  have HFA : Hid (∀ W1, Kept W W1 → Calls Try.prog 20 #[.slice fa F.length fc] W1 fun e w' => FOwn W1 F e w') := fun W1 k => faults_any F fa fc W1 ((hF.kept KW.out (fun _ _ h => h)).kept k (fun _ _ h => h)) b3
  have HCK : Hid (∀ W1 a c, FaultsAt W1 a F → Calls Try.prog 19 #[.int .i64 B, .int .i64 S, .int .i64 (l.length : Nat), .int .i64 (lg.length : Nat), .slice a F.length c] W1 fun e w' => e = .returned (.int .i64 cc) ∧ Kept W1 w') := fun W1 a c h => by rw [ecc]; exact rcheck_any B S l.length lg.length a c F W1 h (by omega)
  have HBX : Hid (∀ W1, Kept W W1 → Kept W W1 ∧ W1.cell? ⟨w.heap.size, 0, none⟩ = some (.int .i64 B) ∧ W1.cell? ⟨w.heap.size, 1, none⟩ = some (.int .i64 S) ∧ W1.cell? ⟨w.heap.size, 2, none⟩ = some (.slice ia l.length ic) ∧ W1.cell? ⟨w.heap.size, 3, none⟩ = some (.slice ga lg.length gc) ∧ W1.cell? ⟨w.heap.size, 4, none⟩ = some (.slice fa F.length fc)) := fun W1 k => by
    have e := (k.block _ hsz (fun h => h)).trans HBW.out
    exact ⟨k, (cell_of e 0).trans rfl, (cell_of e 1).trans rfl, (cell_of e 2).trans rfl, (cell_of e 3).trans rfl, (cell_of e 4).trans rfl⟩
  have HRN : Hid (∀ W1 a c, Kept W W1 → FaultsAt W1 a F → (a = none → F.length = 0 ∧ c = 0) → Calls Try.prog 10 #[.int .i64 B, .int .i64 S, .slice ia l.length ic, .slice ga lg.length gc, .slice a F.length c] W1 fun e w' => ∃ q, e = .returned (.pointer (some ⟨q.db, 0, none⟩)) ∧ Rv w' (M.made B S l lg F) q [] ∧ (∀ k, RFoot (M.made B S l lg F) q k → W1.heap.size ≤ k) ∧ Kept W1 w') := fun W1 a c k h n => rnew_any B S ia ga a ic gc c l lg F W1 ((hl.kept KW.out (fun _ _ h => h)).kept k (fun _ _ h => h)) ((hg.kept KW.out (fun _ _ h => h)).kept k (fun _ _ h => h)) h hnl n hc
  have hcc : cc = 0 := by rw [ecc]; exact hc
  clear hl hg hF hnl hng hnf b1 b2 b3 hc ecc hbx
  go_enter Try.func7, Try.ntmps7
  go_upto_region 1 with fail
  clear hW
  go_cut [2, 5] (fun s2 s5 wx => ∃ p, s2 = .pointer (some ⟨p.db, 0, none⟩) ∧ s5 = .int .i64 0 ∧ Dv wx (M.made B S l lg F) p ∧ (∀ k, Foot (M.made B S l lg F) p k → W.heap.size ≤ k) ∧ Kept W wx)
  case first =>
    go_region_held3 (fun w' => Kept W w' ∧ w'.cell? ⟨w.heap.size, 0, none⟩ = some (.int .i64 B) ∧ w'.cell? ⟨w.heap.size, 1, none⟩ = some (.int .i64 S) ∧ w'.cell? ⟨w.heap.size, 2, none⟩ = some (.slice ia l.length ic) ∧ w'.cell? ⟨w.heap.size, 3, none⟩ = some (.slice ga lg.length gc) ∧ w'.cell? ⟨w.heap.size, 4, none⟩ = some (.slice fa F.length fc))
      (exact HBX.out _ (by (repeat (first | exact Same.refl _ _ | apply Same.alloc | apply Same.drew | refine Same.trans' ?_ kx3 | refine Same.trans' ?_ ky4 | refine Same.trans' ?_ kz5 | refine Same.trans' ?_ kn)); done))
      (first
        | (go_at_call 12; refine Calls.mono (HN.out _ _ _ _ _ _ _ (by (repeat (first | exact Same.refl _ _ | apply Same.alloc | apply Same.drew | refine Same.trans' ?_ kx3 | refine Same.trans' ?_ ky4 | refine Same.trans' ?_ kz5 | refine Same.trans' ?_ kn)); done) (BytesAt.kept (S := fun _ => False) b3 (by (repeat (first | exact Same.refl _ _ | apply Same.alloc | apply Same.drew | refine Same.trans' ?_ kx3 | refine Same.trans' ?_ ky4 | refine Same.trans' ?_ kz5 | refine Same.trans' ?_ kn)); done) (fun _ _ h => h)) nil3 (BytesAt.kept (S := fun _ => False) b4 (by (repeat (first | exact Same.refl _ _ | apply Same.alloc | apply Same.drew | refine Same.trans' ?_ kx3 | refine Same.trans' ?_ ky4 | refine Same.trans' ?_ kz5 | refine Same.trans' ?_ kn)); done) (fun _ _ h => h)) (FaultsAt.kept (S := fun _ => False) b5 (by (repeat (first | exact Same.refl _ _ | apply Same.alloc | apply Same.drew | refine Same.trans' ?_ kx3 | refine Same.trans' ?_ ky4 | refine Same.trans' ?_ kz5 | refine Same.trans' ?_ kn)); done) (fun _ _ h => h)) nil5) ?_; rintro e w6 ⟨p, rfl, dn, fn, kn⟩)
        | (refine step_app rfl (.tmp 13) (.tmp 15) 22 rfl (.slice (some ⟨_, 0, none⟩) 0 0) (.slice ia l.length ic) rfl rfl _ (CI.out _ _ (by (repeat (first | exact Same.refl _ _ | apply Same.alloc | apply Same.drew | refine Same.trans' ?_ kx3 | refine Same.trans' ?_ ky4 | refine Same.trans' ?_ kz5 | refine Same.trans' ?_ kn)); done)) ?_; rintro v3 w3 ⟨a3, c3, rfl, b3, cap3, nil3, fr3, kx3⟩)
        | (refine step_app rfl (.tmp 17) (.tmp 19) 22 rfl (.slice (some ⟨_, 0, none⟩) 0 0) (.slice ga lg.length gc) rfl rfl _ (CG.out _ _ (by (repeat (first | exact Same.refl _ _ | apply Same.alloc | apply Same.drew | refine Same.trans' ?_ kx3 | refine Same.trans' ?_ ky4 | refine Same.trans' ?_ kz5 | refine Same.trans' ?_ kn)); done)) ?_; rintro v4 w4 ⟨a4, c4, rfl, b4, cap4, nil4, fr4, ky4⟩)
        | (refine step_app rfl (.tmp 21) (.tmp 23) 23 rfl (.slice (some ⟨_, 0, none⟩) 0 0) (.slice fa F.length fc) rfl rfl _ (CF.out _ _ (by (repeat (first | exact Same.refl _ _ | apply Same.alloc | apply Same.drew | refine Same.trans' ?_ kx3 | refine Same.trans' ?_ ky4 | refine Same.trans' ?_ kz5 | refine Same.trans' ?_ kn)); done)) ?_; rintro v5 w5 ⟨a5, c5, rfl, b5, nil5, fr5, kz5⟩))
    all_goals
      go_wp2_with fail
      go_meet
      exact ⟨p, rfl, rfl, dn, fun k hk => Nat.le_trans (Same.size (S := fun _ => False) (by (repeat (first | exact Same.refl _ _ | apply Same.alloc | apply Same.drew | refine Same.trans' ?_ kx3 | refine Same.trans' ?_ ky4 | refine Same.trans' ?_ kz5 | refine Same.trans' ?_ kn)); done)) (fn k hk), (by (repeat (first | exact Same.refl _ _ | apply Same.alloc | apply Same.drew | refine Same.trans' ?_ kx3 | refine Same.trans' ?_ ky4 | refine Same.trans' ?_ kz5 | refine Same.trans' ?_ kn)); done)⟩
  case rest =>
    obtain ⟨p, rfl, rfl, hd, hf, kc1⟩ := hcut
    have HD : Hid _ := hd
    have HFT : Hid _ := hf
    have KC1 : Hid _ := kc1
    clear hd hf kc1
    go_upto_region 2 with fail
    go_cut [6] (fun s6 wx => s6 = .int .i64 0 ∧ Kept wc wx)
    case first =>
      go_region_held3 (fun w' => Kept wc w' ∧ w'.cell? ⟨w.heap.size, 0, none⟩ = some (.int .i64 B) ∧ w'.cell? ⟨w.heap.size, 1, none⟩ = some (.int .i64 S) ∧ w'.cell? ⟨w.heap.size, 2, none⟩ = some (.slice ia l.length ic) ∧ w'.cell? ⟨w.heap.size, 3, none⟩ = some (.slice ga lg.length gc) ∧ w'.cell? ⟨w.heap.size, 4, none⟩ = some (.slice fa F.length fc))
        (exact ⟨(by (repeat (first | exact Same.refl _ _ | apply Same.alloc | apply Same.drew | refine Same.trans' ?_ kf | refine Same.trans' ?_ kc)); done), (HBX.out _ (KC1.out.trans' (by (repeat (first | exact Same.refl _ _ | apply Same.alloc | apply Same.drew | refine Same.trans' ?_ kf | refine Same.trans' ?_ kc)); done))).2⟩)
        (first
          | (go_at_call 20; refine Calls.mono (HFA.out _ (KC1.out.trans' (by (repeat (first | exact Same.refl _ _ | apply Same.alloc | apply Same.drew | refine Same.trans' ?_ kf | refine Same.trans' ?_ kc)); done))) ?_; rintro e w7 ⟨a7, c7, rfl, b7, nil7, fr7, kf⟩)
          | (go_at_call 19; refine Calls.mono (HCK.out _ a7 c7 (FaultsAt.kept (S := fun _ => False) b7 (by (repeat (first | exact Same.refl _ _ | apply Same.alloc | apply Same.drew | refine Same.trans' ?_ kf | refine Same.trans' ?_ kc)); done) (fun _ _ h => h))) ?_; rintro e w8 ⟨rfl, kc⟩))
      all_goals
        go_wp2_with fail
        go_meet
        exact ⟨rfl, (by (repeat (first | exact Same.refl _ _ | apply Same.alloc | apply Same.drew | refine Same.trans' ?_ kf | refine Same.trans' ?_ kc)); done)⟩
    case rest =>
      obtain ⟨rfl, kc2⟩ := hcut
      rename_i wd
      have KC2 : Hid _ := KC1.out.trans' kc2
      have D2 : Hid _ := Dv.kept0 HD.out kc2
      have HSZ : Hid _ := kc2.size
      clear kc2
      go_upto_region 7 with fail
      go_region_held3 (fun w' => Kept wc w' ∧ w'.cell? ⟨w.heap.size, 0, none⟩ = some (.int .i64 B) ∧ w'.cell? ⟨w.heap.size, 1, none⟩ = some (.int .i64 S) ∧ w'.cell? ⟨w.heap.size, 2, none⟩ = some (.slice ia l.length ic) ∧ w'.cell? ⟨w.heap.size, 3, none⟩ = some (.slice ga lg.length gc) ∧ w'.cell? ⟨w.heap.size, 4, none⟩ = some (.slice fa F.length fc))
        (exact ⟨(by (repeat (first | exact Same.refl _ _ | apply Same.alloc | apply Same.drew | refine Same.trans' ?_ kf | refine Same.trans' ?_ kc)); done), (HBX.out _ (KC2.out.trans' (by (repeat (first | exact Same.refl _ _ | apply Same.alloc | apply Same.drew | refine Same.trans' ?_ kf | refine Same.trans' ?_ kc)); done))).2⟩)
        (first
          | (go_at_call 20; refine Calls.mono (HFA.out _ (KC2.out.trans' (by (repeat (first | exact Same.refl _ _ | apply Same.alloc | apply Same.drew | refine Same.trans' ?_ kf | refine Same.trans' ?_ kc)); done))) ?_; rintro e w7 ⟨a7, c7, rfl, b7, nil7, fr7, kf⟩)
          | (go_at_call 10; refine Calls.mono (HRN.out _ a7 c7 (KC2.out.trans' (by (repeat (first | exact Same.refl _ _ | apply Same.alloc | apply Same.drew | refine Same.trans' ?_ kf | refine Same.trans' ?_ kc)); done)) (FaultsAt.kept (S := fun _ => False) b7 (by (repeat (first | exact Same.refl _ _ | apply Same.alloc | apply Same.drew | refine Same.trans' ?_ kf | refine Same.trans' ?_ kc)); done) (fun _ _ h => h)) nil7) ?_; rintro e w8 ⟨q, rfl, r8, f8, kc⟩))
      all_goals
        go_wp2_with fail
        go_ret3
        have z1 : Kept wc _ := (by (repeat (first | exact Same.refl _ _ | apply Same.alloc | apply Same.drew | refine Same.trans' ?_ kf | refine Same.trans' ?_ kc)); done)
        have hdl : ∀ k, Foot (M.made B S l lg F) p k → k < wc.heap.size := fun k hk => Dv.lt D2.out hk
        have hrl : ∀ k, RFoot (M.made B S l lg F) q k → wc.heap.size ≤ k := fun k hk => Nat.le_trans (Same.size (S := fun _ => False) (by (repeat (first | exact Same.refl _ _ | apply Same.alloc | apply Same.drew | refine Same.trans' ?_ kf | refine Same.trans' ?_ kc)); done)) (f8 k hk)
        have hw0 : w.heap.size ≤ W.heap.size := Nat.le_of_lt hsz
        refine ⟨p, q, rfl, ⟨Dv.kept0 D2.out (by (repeat (first | exact Same.refl _ _ | apply Same.alloc | apply Same.drew | refine Same.trans' ?_ kf | refine Same.trans' ?_ kc)); done), Rv.on r8 (by (repeat (first | exact Same.refl _ _ | apply Same.alloc | apply Same.drew | refine Same.trans' ?_ kf | refine Same.trans' ?_ kc)); done), fun k hk e => ?_, fun k hk e => ?_, fun k hk => ?_, fun k hk => ?_⟩, KW.out.trans' (KC2.out.trans' (by (repeat (first | exact Same.refl _ _ | apply Same.alloc | apply Same.drew | refine Same.trans' ?_ kf | refine Same.trans' ?_ kc)); done))⟩
        · have y1 := hdl k hk; have y2 := hrl k (.inl e); omega
        · have y1 := hdl k (.inl e); have y2 := hrl k hk; omega
        · have y1 := HFT.out k (.inl hk); omega
        · have y1 := hrl k (.inl hk); have y2 := KC2.out.size; omega
end Go.Proofs.Ytagkgenhgllglaa
