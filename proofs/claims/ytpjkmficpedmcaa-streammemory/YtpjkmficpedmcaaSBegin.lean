/- What is proved: begin of a writer: a block is begun, or one is taken; the writer, its device and its space lie in memory. -/
import Derived.Test.YtpjkmficpedmcaaSWtrB
namespace Go.Proofs.Ytpjkmficpedmcaa
open Go.RowKit
section
variable {o : Nat → Nat} {t : Nat} {w : World} {p : Pl} {sp wb : Nat} {s : WrS} {cl : Bool} {bv gv : Value}

set_option maxRecDepth 100000 in
set_option maxHeartbeats 400000 in
theorem begin_some (h : WrT o t w p sp wb s cl bv gv) (ht : Tg t) (hb : Bl s.bl) (hg : s.bg = []) {i : Nat} (hlow : low s.u = some i) : Calls Try.prog 19 #[.pointer (some ⟨wb, 0, none⟩)] w fun x w' => x = .returned (.int .i64 s.begin.1) ∧ Leaves o t w p sp wb s.begin.2 cl w' := by
  have hl := lt_of_heap h.wtr.obj
  have c1 : w.cell? ⟨wb, 1, none⟩ = some (.pointer (some ⟨sp, 0, none⟩)) := (cell_of h.wtr.obj 1).trans rfl
  obtain ⟨ga, gc, eg, -⟩ := BytesAt.of_row h.wtr.grow
  have c3 : w.cell? ⟨wb, 3, none⟩ = some (.slice ga s.bg.length gc) := by rw [← eg]; exact (cell_of h.wtr.obj 3).trans rfl
  have HH : Hid _ := h
  have HA : Hid _ := al_any h.spc
  rw [hg] at c3
  clear eg
  have eb : s.begin = (0, { s with u := s.u.set i true, bl := s.bl ++ [(i : Int)] }) := by
    unfold WrS.begin
    rw [if_neg (by simpa using hg), hlow]
  rw [eb]
  have HLW : Hid _ := hlow
  have HBL : Hid _ := hb
  clear h hg hlow eb hb
  go_enter Try.func19, Try.ntmps19
  go_wp2_with fail
  refine Calls.mono HA.out ?_
  rintro x w1 (⟨hi, -⟩ | ⟨i', hi, rfl, o1, q1, q2⟩)
  · exfalso
    rw [HLW.out] at hi
    cases hi
  · rw [HLW.out] at hi
    obtain rfl : i = i' := by simpa using hi
    have a1 := HH.out.wtr.on q2 ht.n2
    have HD : Hid _ := And.intro q2 q1
    obtain ⟨w2, ew2⟩ : ∃ w2, w2 = w1.alloc (.cells #[.int .i64 (i : Int), .int .i64 1] 65) := ⟨_, rfl⟩
    have kx : Kept w1 w2 := by rw [ew2]; exact (Same.refl _ w1).alloc _
    have hbox : w2.heap[w1.heap.size]? = some (.cells #[.int .i64 (i : Int), .int .i64 1] 65 (0, 0)) := by rw [ew2]; exact heap_new w1 _
    have st2' : Step (fun _ => False) o1 w1 o1 w2 := ⟨kx, fun _ _ => rfl⟩
    have a2 := a1.on st2' (fun h => h)
    have hl2 := lt_of_heap a2.obj
    have d2 : w2.cell? ⟨wb, 2, none⟩ = some bv := (cell_of a2.obj 2).trans rfl
    have d2f := frozen_of a2.obj 2
    have dx : w2.cell? ⟨w1.heap.size, 0, none⟩ = some (.int .i64 i) := (cell_of hbox 0).trans rfl
    have hlx := lt_of_heap hbox
    have HC : Hid (∀ W, Same (fun k => bv.ownBlock = some k) w2 W → W.cell? ⟨wb, 2, none⟩ = some bv ∧ W.frozen? ⟨wb, 2, none⟩ = false ∧ W.cell? ⟨w1.heap.size, 0, none⟩ = some (.int .i64 i)) := fun W k => by
      have ho := (k.block wb hl2 fun e => (a2.ne.1 wb e).1 rfl).trans a2.obj
      refine ⟨(cell_of ho 2).trans rfl, frozen_of ho 2, (k.cell (p := ⟨w1.heap.size, 0, none⟩) hlx fun e => ?_).trans dx⟩
      obtain ⟨-, cur, h1⟩ := own_lt a2.brow e
      rw [show (⟨w1.heap.size, 0, none⟩ : Addr).block = w1.heap.size from rfl, hbox] at h1
      simp at h1
    have HAP : Hid (∀ W, Kept w2 W → W.heap.size = w1.heap.size + 1 → ∀ ty, ∃ v' w', (Builtin.append_ #[37, 37] ty #[bv, .slice (some ⟨w1.heap.size + 1, 0, none⟩) 1 1]).run Try.prog (W.alloc (.cells #[.int .i64 (i : Int)] 3)) = .ok v' w' ∧ OwnI 0 w' v' (s.bl ++ [(i : Int)]) ∧ Same (fun k => bv.ownBlock = some k) w2 w' ∧ ∀ k, v'.ownBlock = some k → bv.ownBlock = some k ∨ w2.heap.size ≤ k) := fun W k hW ty => by
      rw [← hW]
      obtain ⟨v', w', r1, r2, r3, r4⟩ := app_num (i : Int) (own_kept a2.brow k (fun _ _ h => h)) (by have := HBL.out.len; omega) ty
      exact ⟨v', w', r1, r2, (Kept.to k _).trans' r3, fun k' e => (r4 k' e).imp id fun e => Nat.le_trans k.size e⟩
    have KX : Hid _ := kx
    clear a1 a2 st2' q1 q2 hbox kx hi
    unfold exV
    subst ew2
    go_wp2_with fail
    have HAP1 : Hid _ := HAP.out (w1.alloc (.cells #[.int .i64 (i : Int), .int .i64 1] 65)).drew ((Same.refl _ _).drew) (by simp [World.drew])
    obtain ⟨d2a, -, dxa⟩ := HC.out ((w1.alloc (.cells #[.int .i64 (i : Int), .int .i64 1] 65)).alloc (.cells #[.int .i64 (i : Int)] 3)) ((Same.refl _ _).alloc _)
    go_region_law ((refine step_app rfl (.tmp 28) (.tmp 31) 37 rfl bv (.slice (some ⟨w1.heap.size + 1, 0, none⟩) 1 1) rfl rfl _ HAP1.out ?_); rintro v3 w3 ⟨q4, q5, q6⟩; obtain ⟨va, vc, rfl, -⟩ := OwnI.nums q4; obtain ⟨z1, z2, -⟩ := HC.out w3 q5; have hl3 : wb < w3.heap.size := Nat.lt_of_lt_of_le hl2 q5.size; have Q : Hid _ := And.intro q4 (And.intro q5 q6); clear q4 q5 q6)
    all_goals
      go_wp2_with fail
      go_ret
      have hx := begin_done HH.out ht HD.out.1 HD.out.2 KX.out Q.out.1 Q.out.2.1 Q.out.2.2
      rw [show (s.bl ++ [(i : Int)]).length = s.bl.length + 1 by simp] at hx
      exact ⟨rfl, hx⟩

set_option maxRecDepth 100000 in
set_option maxHeartbeats 1600000 in
theorem begin_any (h : WrT o t w p sp wb s cl bv gv) (ht : Tg t) (hb : Bl s.bl) : Calls Try.prog 19 #[.pointer (some ⟨wb, 0, none⟩)] w fun x w' => x = .returned (.int .i64 s.begin.1) ∧ Leaves o t w p sp wb s.begin.2 cl w' := by
  have hl := lt_of_heap h.wtr.obj
  have c1 : w.cell? ⟨wb, 1, none⟩ = some (.pointer (some ⟨sp, 0, none⟩)) := (cell_of h.wtr.obj 1).trans rfl
  obtain ⟨ga, gc, eg, -⟩ := BytesAt.of_row h.wtr.grow
  have c3 : w.cell? ⟨wb, 3, none⟩ = some (.slice ga s.bg.length gc) := by rw [← eg]; exact (cell_of h.wtr.obj 3).trans rfl
  have HH : Hid _ := h
  by_cases hg : s.bg = []
  · have HA : Hid _ := al_any h.spc
    rw [hg] at c3
    clear eg
    cases hlow : low s.u with
    | none =>
      have eb : s.begin = (42, s.fail 42) := by
        unfold WrS.begin
        rw [if_neg (by simpa using hg), hlow]
      rw [eb]
      have HLW : Hid _ := hlow
      have HBL : Hid _ := hb
      clear h hg hlow eb hb
      go_enter Try.func19, Try.ntmps19
      go_wp2_with fail
      refine Calls.mono HA.out ?_
      rintro x w1 (⟨-, rfl, k1⟩ | ⟨i, hi, -⟩)
      · have HF : Hid (∀ W, Kept w W → _) := fun W (k : Kept w W) => fail_any (HH.out.kept k) ht HBL.out 42
        have K1 : Hid _ := k1
        clear k1
        unfold exV
        go_wp2_with fail
        refine Calls.mono (HF.out _ (by (repeat (first | exact Same.refl _ _ | exact K1.out | apply Same.setCell | apply Same.alloc | apply Same.drew)) <;> first | done | exact .inl K1.out.size)) ?_
        rintro x w2 ⟨rfl, r1⟩
        have R : Hid _ := r1
        clear r1
        go_wp2_with fail
        go_ret
        exact ⟨rfl, Leaves.after (Step.kept (K1.out.alloc _)) R.out⟩
      · exfalso
        rw [HLW.out] at hi
        cases hi
    | some i => exact begin_some h ht hb hg hlow
  · have eb : s.begin = (0, s) := begin_held hg
    rw [eb]
    have hp : 0 < s.bg.length := List.length_pos_iff.2 hg
    have hp' : decide ((s.bg.length : Int) > 0) = true := by simpa using hp
    clear h hg eb eg
    go_enter Try.func19, Try.ntmps19
    go_wp2_with fail
    go_ret
    exact ⟨rfl, o, bv, gv, Step.refl _ _ _, HH.out⟩
end
end Go.Proofs.Ytpjkmficpedmcaa
