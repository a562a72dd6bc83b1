/- What is proved: finish lays a session's active transaction into the log, and the session has none any more; the machine lies in memory. -/
import Derived.Test.YtmghmacgljihcaaKFin
import Derived.Deep.DeepCutAuto
namespace Go.Proofs.Ytmghmacgljihcaa
open Go.RowKit

theorem Op1.flds {tg : Nat → Tg} {w wx wy : World} {i g : Nat} {t t' : TxM} {ops : List OpM} {ts : List Int} {ov tv : Value} (h : Op1 tg w wx i g t ops ts ov tv) (hs : Same (fun b => b = g) wx wy) (ho : TxB wy g t' ov tv) : Op1 tg w wy i g t' ops ts ov tv :=
  ⟨ho, row_kept h.own hs fun b hb e => (by
    subst e
    obtain ⟨-, cur, hc⟩ := row_block h.own hb
    exact types_ne h.obj hc (by decide)), h.loc, row_kept h.tms hs fun b hb e => (by
    subst e
    obtain ⟨-, cur, hc⟩ := row_block h.tms hb
    exact types_ne h.obj hc (by decide)), h.tt, h.same.trans hs fun b _ e => (by rw [e]; exact .inl h.tgx), h.tgx⟩
theorem TxB.put356 {w : World} {g : Nat} {t : TxM} {ov tv : Value} (h : TxB w g t ov tv) (c st : Int) : TxB (((w.setCell ⟨g, 3, none⟩ (.int .i64 c)).setCell ⟨g, 5, none⟩ (.int .i64 c)).setCell ⟨g, 6, none⟩ (.int .i64 st)) g (endT t c st) ov tv := by
  simpa [TxB, endT] using setCell_at (setCell_at (setCell_at h 3 (.int .i64 c)) 5 (.int .i64 c)) 6 (.int .i64 st)
theorem MiP.on {tg : Nat → Tg} {w w' w'' : World} {mb sb vb : Nat} {M' : Mm} (h : MiP tg w mb sb vb M' w') (k : Kept w' w'') : MiP tg w mb sb vb M' w'' := by
  obtain ⟨tg', lv', P', L', h1, h2, h3⟩ := h
  exact ⟨tg', lv', P', L', h1.on k, h2, h3.trans k fun _ _ e => e.elim⟩
/-- A step behind what turned nothing. -/
theorem MiP.behind {tg : Nat → Tg} {w w0 w' : World} {mb sb vb : Nat} {M' : Mm} (k : Kept w w0) (h : MiP tg w0 mb sb vb M' w') : MiP tg w mb sb vb M' w' := by
  obtain ⟨tg', lv', P', L', h1, h2, h3⟩ := h
  refine ⟨tg', lv', P', L', h1, fun b hb => ?_, (k.to _).trans h3 fun _ _ e => e⟩
  rcases h2 b hb with h | h
  · exact .inl h
  · exact .inr (Nat.le_trans k.size h)
set_option maxRecDepth 100000 in
set_option maxHeartbeats 3200000 in
theorem finish15 {tg : Nat → Tg} {w : World} {mb sb vb : Nat} {lv : Value} {P : Nat → Option Nat} {L : List (TxM × Value)} {M : Mm} (h : Mi tg w mb sb vb lv P L M) (_ : M.ses.length ≤ 64) (hlg : M.log.length ≤ 4096) {i : Nat} {a : Ac} (ha : (M.at i).act = some a) (st : Int) :
    Calls Try.prog 45 #[.pointer (some ⟨mb, 0, none⟩), .int .i64 (i : Int), .int .i64 st] w fun e w' => e = .returned (.tuple #[]) ∧ MiP tg w mb sb vb (finM M i a st) w' := by
  have hi := at_lt ha
  obtain ⟨g, ov, tv, hp, hx⟩ := h.act i a ha
  have hL : L.length ≤ 4096 := by rw [← h.ll] at hlg; simpa using hlg
  have HFIN : Hid (∀ Z, Op1 tg w Z i g (endT a.t M.clock st) a.t.ops a.ts ov tv → ∀ W' w4 lv', Kept Z W' → OwnT 0 w4 lv' (L ++ [(endT a.t M.clock st, ov)]) → Same (fun b => lv.ownBlock = some b) W' w4 → (∀ b, lv'.ownBlock = some b → lv.ownBlock = some b ∨ W'.heap.size ≤ b) → _ ∧ MiP tg w mb sb vb (finM M i a st) _) := fun Z hz W' w4 lv' k h1 h2 h3 => Mi.fin h hi hz k h1 h2 h3
  obtain ⟨hmb, ⟨-, c1, -, c3, -, c5⟩, -⟩ := Mi.cells h
  obtain ⟨hsb, -, d1, -⟩ := h.sess hi
  rw [hp] at d1 HFIN
  simp only [Option.map_some] at d1 HFIN
  have O1 : Hid (Op1 tg w w i g a.t a.t.ops a.ts ov tv) := Op1.start hx
  obtain ⟨hgl, ⟨q0, q1, q2, q3, q4, q5, q6, q7, q8⟩, fz⟩ := TxB.cells hx.obj
  have fz3 := fz 3
  have fz5 := fz 5
  have fz6 := fz 6
  obtain ⟨oa, ocp, eov, -⟩ := OwnO.ops hx.ops
  obtain ⟨la, lcp, elv, -⟩ := row_shape h.lg
  have ne : ¬ mb = g := fun e => by have h1 := h.tm; rw [e, hx.tgx] at h1; cases h1
  have ne' : ¬ g = mb := fun e => ne e.symm
  have HM : Hid (Mi tg w mb sb vb lv P L M) := h
  have HOV : Hid _ := eov
  have HLV : Hid _ := elv
  obtain ⟨n, en⟩ : ∃ n, n = M.ses.length := ⟨_, rfl⟩
  rw [← en] at hi c3
  have EN : Hid (n = M.ses.length) := en
  have hi2 : (i : Int) < (n : Int) := by omega
  have hi3 : decide ((i : Int) < (n : Int)) = true := decide_eq_true hi2
  obtain ⟨cl, ecl⟩ : ∃ cl, cl = M.clock := ⟨_, rfl⟩
  have ECL : Hid (cl = M.clock) := ecl
  rw [← ecl] at c1
  clear h ha hx hlg fz eov elv en hp ecl
  go_enter Try.func45, Try.ntmps45
  go_upto_region 1 with fail
  go_cut [15] (fun s15 wx => Op1 tg w wx i g (endT a.t cl st) a.t.ops a.ts ov tv)
  case first =>
    go_region
    all_goals
      go_wp2_with fail
      go_meet
      exact Op1.flds O1.out ((((Same.refl (fun b => b = g) w).setCell ⟨g, 3, none⟩ (.inr rfl) _).setCell ⟨g, 5, none⟩ (.inr rfl) _).setCell ⟨g, 6, none⟩ (.inr rfl) _).drew (TxB.put356 O1.out.obj cl st)
  case rest =>
    rename World => Z
    have o2 := hcut
    have O2 : Hid (Op1 tg w Z i g (endT a.t cl st) a.t.ops a.ts ov tv) := o2
    clear hcut q0 q1 q2 q3 q4 q5 q6 q7 q8 fz3 fz5 fz6 hgl c1 c3 c5 hmb hsb d1 O1
    obtain ⟨hgl, ⟨q0, q1, q2, q3, q4, q5, q6, q7, -⟩, -⟩ := TxB.cells o2.obj
    obtain ⟨r1, r2, -, r4, -, -⟩ := Op1.rest HM.out o2
    have hob : Z.heap[mb]? = _ := r1.trans (Mi.obj HM.out)
    have hmb := lt_of_heap hob
    have c5 : Z.cell? ⟨mb, 5, none⟩ = some lv := (cell_of hob 5).trans rfl
    have HRL : Hid (OwnT 0 Z lv L) := r4
    rw [← ECL.out] at HFIN
    have HFI := HFIN.out Z o2
    rw [← EN.out] at HFI
    have HFI2 : Hid _ := HFI
    clear HFI HFIN o2 hob r1 r2 r4
    have EOV : Hid (ov.oneCell' = true) := by
      show ov.oneCell' = true
      rw [HOV.out]
      rfl
    have HAP : Hid (∀ W', Kept Z W' → ∀ g', W'.heap[g']? = some (.cells #[.int .i64 (endT a.t cl st).f0, .int .i64 (endT a.t cl st).f1, .int .i64 (endT a.t cl st).f2, .int .i64 (endT a.t cl st).f3, .int .i64 (endT a.t cl st).f4, .int .i64 (endT a.t cl st).f5, .int .i64 (endT a.t cl st).f6, ov] 51 (0, 0)) → ∀ ty, ∃ v' w', (Builtin.append_ #[39, 39] ty #[lv, .slice (some ⟨g', 0, none⟩) 1 1]).run Try.prog W' = .ok v' w' ∧ (OwnT 0 w' v' (L ++ [(endT a.t cl st, ov)]) ∧ Same (fun k => lv.ownBlock = some k) W' w' ∧ ∀ k, v'.ownBlock = some k → lv.ownBlock = some k ∨ W'.heap.size ≤ k)) := fun W' k' g' hg' ty =>
      app_txn (endT a.t cl st, ov) (row_kept HRL.out k' fun _ _ e => e) EOV.out hg' hL (Nat.zero_le _) ty
    obtain rfl := (show ov = _ from HOV.out)
    obtain rfl := (show lv = _ from HLV.out)
    generalize endT a.t cl st = t at *
    generalize a.t.ops.length = on at *
    generalize L.length = ln at *
    clear HOV HLV O2
    go_upto_region 2 with fail
    go_cut [46] (fun s46 wx => ∃ W' w4 lv', Kept Z W' ∧ OwnT 0 w4 lv' (L ++ [(t, .slice oa on ocp)]) ∧ Same (fun b => (Value.slice la ln lcp).ownBlock = some b) W' w4 ∧ (∀ b, lv'.ownBlock = some b → (Value.slice la ln lcp).ownBlock = some b ∨ W'.heap.size ≤ b) ∧ (wx = w4.setCell ⟨mb, 5, none⟩ lv' ∨ wx = (w4.setCell ⟨mb, 5, none⟩ lv').drew))
    case first =>
      go_region_law ((refine step_app rfl (.tmp 40) (.tmp 45) 39 rfl _ (.slice (some ⟨Z.heap.size, 0, none⟩) 1 1) rfl rfl _ (HAP.out _ (by (repeat (first | assumption | exact Same.refl _ _ | apply Same.alloc | apply Same.drew | apply Same.drewN)); done) _ (by exact heap_new _ _)) ?_); rintro v4 w4 ⟨o4, s4, l4⟩; have KZ : Hid (Kept Z _) := (by have k9 : Kept Z _ := (by (repeat (first | assumption | exact Same.refl _ _ | apply Same.alloc | apply Same.drew | apply Same.drewN)); done); exact k9); obtain ⟨⟨⟨c40, f40, b40, a4, n4, cp4, rfl⟩, -⟩, -⟩ := HFI2.out _ w4 v4 (by (repeat (first | assumption | exact Same.refl _ _ | apply Same.alloc | apply Same.drew | apply Same.drewN)); done) o4 s4 l4; have O4 : Hid _ := o4; have S4 : Hid _ := s4; have L4 : Hid _ := l4; clear o4 s4 l4)
      all_goals
        go_wp2_with fail
        go_meet
        exact ⟨_, _, _, (by (repeat (first | assumption | exact Same.refl _ _ | apply Same.alloc | apply Same.drew | apply Same.drewN)); done), O4.out, S4.out, L4.out, (by first | exact .inl rfl | exact .inr rfl)⟩
    case rest =>
      rename World => Y
      obtain ⟨W', w4, lv', kz, o4, s4, l4, hw⟩ := hcut
      obtain ⟨⟨-, c3, hmb5, hsb5, d1, f1⟩, mi⟩ := HFI2.out W' w4 lv' kz o4 s4 l4
      have MI : Hid _ := mi
      clear mi kz o4 s4 l4 HFI2
      generalize w4.setCell ⟨mb, 5, none⟩ lv' = U at *
      rcases hw with rfl | rfl
      all_goals
        go_wp2_with fail
        go_end0
        exact ⟨rfl, MiP.on MI.out (by (repeat (first | exact Same.refl _ _ | apply Same.drew | apply Same.drewN)); done)⟩
end Go.Proofs.Ytmghmacgljihcaa
