/- What is proved: one step of a script on both devices, of every kind, and a whole script: step and play answer true; both lie in memory, the script too. -/
import Derived.Test.YtagkgenhgllglaaDRvM
namespace Go.Proofs.Ytagkgenhgllglaa
open Go.RowKit

set_option maxRecDepth 100000 in
set_option maxHeartbeats 1600000 in
theorem step_wr {base : Nat} {w : World} {m : M} {p : Pl} {q : RP} {Q : List Rb} (h : Two base w m p q Q) (hb : base ≤ w.heap.size) (o : St) (hk : m.k + 1 < 4611686018427387904) (hok : o.k = 3) (hd : BytesAt w o.da o.d) (hlt : ∀ k, InB o.da o.d.length k → k < base) (hnil : o.da = none → o.d.length = 0 ∧ o.dc = 0) (hlen : o.d.length ≤ 140737488355328) :
    Calls Try.prog 21 #[.pointer (some ⟨p.db, 0, none⟩), .pointer (some ⟨q.db, 0, none⟩), stV o] w fun e w' => e = .returned (.bool true) ∧ Stp base w m p q Q w' := by
  have h0 : Two base (w.alloc (stO o)) m p q Q := h.on ((Same.refl _ _).alloc _)
  have hbx : (w.alloc (stO o)).heap[w.heap.size]? = some (stO o) := heap_new _ _
  have hd0 : BytesAt (w.alloc (stO o)) o.da o.d := hd.kept ((Same.refl (fun _ => False) w).alloc _) (fun _ _ h => h)
  have HOL : Hid (∀ k, (Own p k ∨ ROwn q k) → k < w.heap.size) := fun k hk => hk.elim (fun e => h.d.lt (.inl e)) (fun e => h.r.lt (.inl e))
  have hsz : w.heap.size < (w.alloc (stO o)).heap.size := by simp
  have HWS : Hid (base ≤ (w.alloc (stO o)).heap.size) := by rw [World.size_alloc]; exact Nat.le_trans hb (Nat.le_succ _)
  have KW : Hid (Kept w (w.alloc (stO o))) := (Same.refl _ _).alloc _
  obtain ⟨nd, end'⟩ : ∃ n, n = o.d.length := ⟨_, rfl⟩
  obtain ⟨X, eX⟩ : ∃ X, X = m.write o.at' o.d := ⟨_, rfl⟩
  have EX : Hid _ := eX
  obtain ⟨cX, ecX⟩ : ∃ c, c = X.1 := ⟨_, rfl⟩
  have ECX : Hid _ := ecX
  unfold stV stO at *
  generalize hW : w.alloc (.cells #[.int .i64 o.k, .int .i64 o.at', .slice o.da o.d.length o.dc] 55 (0, 0)) = W at h0 hbx hd0 hsz HWS KW
  have H0 : Hid _ := h0
  have HBW : Hid _ := hbx
  have HD0 : Hid _ := hd0
  have HLT : Hid _ := hlt
  have CD : Hid (∀ w1 (b : Addr), Kept W w1 → ∀ ty, ∃ v' w', (Builtin.append_ #[22, 22] ty #[.slice (some b) 0 0, .slice o.da o.d.length o.dc]).run Try.prog w1 = .ok v' w' ∧ CloneB w1 o.d v' w') := fun w1 b k1 ty => clone_at b (BytesAt.kept HD0.out k1 (fun _ _ h => h)) hnil hlen ty
  have HWR : Hid (∀ w5 a5 c5, Kept W w5 → BytesAt w5 a5 o.d → o.d.length ≤ c5 → (∀ k, InB a5 o.d.length k → W.heap.size ≤ k) → Calls Try.prog 14 #[.pointer (some ⟨p.db, 0, none⟩), .int .i64 o.at', .slice a5 o.d.length c5] w5 fun e w' => e = .returned (.int .i64 cX) ∧ Dv w' X.2 p ∧ Same (Own p) w5 w') := fun w5 a5 c5 k5 r1 r2 r3 => by
    rw [ecX, eX]
    exact write_any (h0.d.kept0 k5) o.at' a5 c5 o.d r1 r2 (fun k hk e => by have z1 := r3 k hk; have z2 := HOL.out k (.inl (.inl e)); omega) hk
  have HRW : Hid (∀ w5, Same (Own p) W w5 → Calls Try.prog 35 #[.pointer (some ⟨q.db, 0, none⟩), .int .i64 o.at', .slice o.da o.d.length o.dc] w5 fun e w' => e = .returned (.int .i64 cX) ∧ Rv w' X.2 q Q ∧ Same (ROwn q) w5 w') := fun w5 s5 => by
    rw [ecX, eX]
    exact rwrite_any (h0.r.kept s5 h0.a2) o.at' o.da o.dc o.d (hd0.kept s5 fun k hk e => by have z1 := HLT.out k hk; have z2 := h0.b1 k e; omega) (fun k hk e => by have z1 := HLT.out k hk; have z2 := h0.b2 k e; omega) hk
  have HBX2 : Hid (∀ w5, Kept W w5 → Kept W w5 ∧ w5.cell? ⟨w.heap.size, 1, none⟩ = some (.int .i64 o.at') ∧ w5.cell? ⟨w.heap.size, 2, none⟩ = some (.slice o.da o.d.length o.dc)) := fun w5 k5 => by
    have e := (k5.block _ hsz (fun h => h)).trans HBW.out
    exact ⟨k5, (cell_of e 1).trans rfl, (cell_of e 2).trans rfl⟩
  have HBX3 : Hid (∀ w5 w6, Kept W w5 → Same (Own p) w5 w6 → w6.cell? ⟨w.heap.size, 1, none⟩ = some (.int .i64 o.at') ∧ w6.cell? ⟨w.heap.size, 2, none⟩ = some (.slice o.da o.d.length o.dc)) := fun w5 w6 k5 s6 => by
    have e0 := (k5.block _ hsz (fun h => h)).trans HBW.out
    have e := (s6.block _ (lt_of_heap e0) (fun e => by have := HOL.out _ (.inl e); omega)).trans e0
    exact ⟨(cell_of e 1).trans rfl, (cell_of e 2).trans rfl⟩
  have x0 : W.cell? ⟨w.heap.size, 0, none⟩ = some (.int .i64 o.k) := (cell_of hbx 0).trans rfl
  have HIF : Hid (X.2.inp = m.inp ∧ X.2.F = m.F) := by rw [eX]; exact inp_write m o.at' o.d
  have HKK : Hid (X.2.k ≤ m.k + 3 ∧ Fx m X.2) := by rw [eX]; exact k_write m o.at' o.d
  have e1 : (o.k == 1) = false := by simp [hok]
  have e2 : (o.k == 2) = false := by simp [hok]
  have e3 : (o.k == 3) = true := by simp [hok]
  clear h h0 hbx hd hd0 hlt hnil hlen hok eX ecX end' hb hk
  go_enter Try.func21, Try.ntmps21
  go_upto_region 1 with fail
  clear hW
  go_upto_region 11 with fail
  go_cut [15] (fun s15 wx => s15 = .int .i64 cX ∧ ∃ w5, Kept W w5 ∧ Dv wx X.2 p ∧ Same (Own p) w5 wx)
  case first =>
    go_region_held3 (fun w' => w'.cell? ⟨w.heap.size, 1, none⟩ = some (.int .i64 o.at') ∧ w'.cell? ⟨w.heap.size, 2, none⟩ = some (.slice o.da o.d.length o.dc))
      (first
        | (refine (HBX2.out _ ?_).2; (repeat (first | exact Same.refl _ _ | apply Same.alloc | apply Same.drew | refine Same.trans' ?_ kx3)); done)
        | (refine HBX3.out _ _ ?_ sn; (repeat (first | exact Same.refl _ _ | apply Same.alloc | apply Same.drew | refine Same.trans' ?_ kx3)); done))
      (first
        | (go_at_call 14; refine Calls.mono (HWR.out _ _ _ (by (repeat (first | exact Same.refl _ _ | apply Same.alloc | apply Same.drew | refine Same.trans' ?_ kx3)); done) (BytesAt.kept (S := fun _ => False) b3 (by (repeat (first | exact Same.refl _ _ | apply Same.alloc | apply Same.drew | refine Same.trans' ?_ kx3)); done) (fun _ _ h => h)) cap3 (fun k hk => Nat.le_trans (Same.size (S := fun _ => False) (by (repeat (first | exact Same.refl _ _ | apply Same.alloc | apply Same.drew | refine Same.trans' ?_ kx3)); done)) (fr3 k hk))) ?_; rintro e w6 ⟨rfl, dn, sn⟩)
        | (refine step_app rfl (.tmp 72) (.tmp 74) 22 rfl (.slice (some ⟨_, 0, none⟩) 0 0) (.slice o.da o.d.length o.dc) rfl rfl _ (CD.out _ _ (by (repeat (first | exact Same.refl _ _ | apply Same.alloc | apply Same.drew | refine Same.trans' ?_ kx3)); done)) ?_; rintro v3 w3 ⟨a3, c3, rfl, b3, cap3, nil3, fr3, kx3⟩))
    all_goals
      go_wp2_with fail
      go_meet
      exact ⟨rfl, _, (by (repeat (first | exact Same.refl _ _ | apply Same.alloc | apply Same.drew | refine Same.trans' ?_ kx3)); done), dn, sn⟩
  case rest =>
    obtain ⟨rfl, w5, k5, dn, sn⟩ := hcut
    have S6 : Hid (Same (Own p) W wc) := (Kept.to k5 _).trans' sn
    obtain ⟨y1, y2⟩ := HBX3.out _ _ k5 sn
    have yl : w.heap.size < wc.heap.size := Nat.lt_of_lt_of_le hsz (Nat.le_trans k5.size sn.size)
    have DN : Hid _ := dn
    have HC2 : Hid _ := HRW.out wc S6.out
    clear k5 dn sn HWR HRW CD x0
    go_wp2_with fail
    refine Calls.mono HC2.out ?_
    rintro e w7 ⟨rfl, r7, s7⟩
    have HT : Hid _ := Two.next (v := q.sv) H0.out HWS.out DN.out S6.out (Same.refl _ _) r7 s7 (.inl rfl) HIF.out.1 HIF.out.2
    clear r7 s7 HC2
    go_wp2_with fail
    go_ret
    exact ⟨by simp, _, q.sv, Q, HT.out.1, (Kept.to KW.out _).trans' HT.out.2, Nat.le_succ _, HKK.out⟩
end Go.Proofs.Ytagkgenhgllglaa
