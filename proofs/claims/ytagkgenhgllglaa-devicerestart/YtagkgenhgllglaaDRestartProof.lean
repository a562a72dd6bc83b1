/- What is proved: the given statement on DeviceRestart: for every setup, script and image the law returns true, and its arguments read as before; no condition. -/
import Derived.Test.YtagkgenhgllglaaDRvV
import Derived.Test.YtagkgenhgllglaaDRvT
namespace Go.Proofs.Ytagkgenhgllglaa.deviceRestart
open Go.ChangeShapes Go.WideShapes Go.ChangeAt Go.RowKit

theorem own : ownKnob Try.prog.godebug = none := by kernel_rfl

theorem walk (B S : Int) (ia ga fa sa ma : Option Addr) (ic gc fc sc mc : Nat) (l lg im : List Int) (F : List Fl) (ls : List St) (w : World) (hl : BytesAt w ia l) (hg : BytesAt w ga lg) (hF : FaultsAt w fa F) (hs : StepsAt w sa ls) (hm : BytesAt w ma im) (hnl : ia = none → l.length = 0 ∧ ic = 0) (hng : ga = none → lg.length = 0 ∧ gc = 0) (hnf : fa = none → F.length = 0 ∧ fc = 0) (hnm : ma = none → im.length = 0 ∧ mc = 0)
    (b1 : l.length ≤ 140737488355328) (b2 : lg.length ≤ 140737488355328) (b3 : F.length * 32 ≤ 140737488355328) (b4 : ls.length * 40 ≤ 140737488355328) (b5 : im.length ≤ 140737488355328) :
    Calls Try.prog 4 #[setupV B S ia ga fa l.length ic lg.length gc F.length fc, .slice sa ls.length sc, .slice ma im.length mc] w fun e w' => e = .returned (.bool true) ∧ Kept w w' := by
  by_cases hc : chk B S l.length lg.length F = 0
  · have h1 : okG B S = true := by
      unfold chk at hc
      by_cases h1 : okG B S = false
      · rw [if_pos h1] at hc; cases hc
      · simpa using h1
    obtain ⟨b, s, rfl, rfl, _, _, _⟩ := okG_nat h1
    exact rest_yes b s ia ga fa sa ma ic gc fc sc mc l lg im F ls w hl hg hF hs hm hnl hng hnf hnm b1 b2 b3 b4 b5 hc
  · exact rest_no B S ia ga fa ic gc fc l lg F _ _ w hl hg hF hnl hng hnf b1 b2 b3 hc

set_option maxRecDepth 100000 in
theorem lifted (os : Os) (started : os.Started) (H : Type) (enc : TypeId × Value → H) :
    ReturnsInHanded {} Try.checked os 4 .any (Rows.deviceRestartSpec.pre6 enc Try.prog Try.f4 Rows.deviceRestartRow.domain false) (Rows.deviceRestartSpec.post enc Try.prog Try.f4 false true false false) := by
  refine returnsInHanded_of_change_sized (C := Try.checked) own started (by kernel_rfl) Try.func4
    (ChangeSpec.witness6 (enc := enc) (C := Try.checked) false ⟨#[], #[.agg #[.int .i64 0, .int .i64 0, .slice none 0 0, .slice none 0 0, .slice none 0 0], .slice none 0 0, .slice none 0 0], []⟩ 8 (by kernel_rfl) (by kernel_rfl) (by kernel_rfl) (by kernel_rfl)) ?_
  intro W base args ds gs before hval0 hW hcnd hsz _
  have hval : ∀ (j : Nat) t v, Try.f4.params[j]? = some t → args[j]? = some v → Value.okWide Try.prog W .any base t v := hval0
  have hW' := hW
  obtain ⟨p, q, hA0, hV, rfl, hfz, hnd⟩ := hW
  have hA : DataW.TrodAll enc Try.prog W 0 (fun _ => true) true Try.f4.params.toList args.toList ds p := hA0
  have hP : Try.f4.params.toList = [25, 26, 22] := by kernel_rfl
  rw [Try.params4] at hA hval
  obtain ⟨v0, vs0, d0, ds0, p0, q0, hargs, rfl, rfl, h0, r0⟩ := trodAll_cons hA
  obtain ⟨v1, vs1, d1, ds1, p1, q1, hargs1, rfl, rfl, h1, r1⟩ := trodAll_cons r0
  obtain ⟨v2, vs2, d2, ds2, p2, q2, hargs2, rfl, rfl, h2, r2⟩ := trodAll_cons r1
  obtain ⟨rfl, rfl, rfl⟩ := trodAll_nil r2
  obtain rfl : args = #[v0, v1, v2] := by cases args; simp_all
  obtain ⟨rfl, rfl⟩ := trodVars_none hV
  have hw : ∀ n, n ∈ d0.weights Try.prog 25 ∨ n ∈ d1.weights Try.prog 26 ∨ n ∈ d2.weights Try.prog 22 → n ≤ reachBytes := fun n hn => by
    rw [hP, List.append_nil] at hsz
    have := List.all_eq_true.1 hsz n (by
      simp only [List.cons_append, DataW.weightsEach, List.mem_append]
      exact hn.imp id (fun h => h.imp id .inl))
    simpa using this
  obtain ⟨cs, rfl, hcs⟩ := okWide_struct Try.underlying25 (hval 0 25 v0 rfl rfl)
  obtain ⟨sa, nn, sc, rfl⟩ := okWide_slice Try.underlying26 (hval 1 26 v1 rfl rfl)
  obtain ⟨ma, nm, mc, rfl⟩ := okWide_slice Try.underlying22 (hval 2 22 v2 rfl rfl)
  clear hA0 hval0
  simp only [List.append_nil] at hW'
  have hlt : ∀ x ∈ p0 ++ (p1 ++ p2), x.block < W.heap.size := fun x hx => hW'.lt x (by simpa using hx)
  have h0k := h0
  have h1k := h1
  have h2k := h2
  obtain ⟨fuel0, h0'⟩ := h0
  obtain ⟨fuel1, h1'⟩ := h1
  obtain ⟨fuel2, h2'⟩ := h2
  have g0 : DataW.trod enc Try.prog W 0 (fun _ => true) true fuel0 25 cs.toList = some (d0, p0) := by simpa [Value.cells] using h0'
  have g1 : DataW.trod enc Try.prog W 0 (fun _ => true) true fuel1 26 [.slice sa nn sc] = some (d1, p1) := by simpa [Value.cells] using h1'
  have g2 : DataW.trod enc Try.prog W 0 (fun _ => true) true fuel2 22 [.slice ma nm mc] = some (d2, p2) := by simpa [Value.cells] using h2'
  obtain ⟨B, S, ia, ga, fa, ic, gc, fc, l, lg, F, hv, iB, iS, e1, e2, e3, e4, e5, e6, e7⟩ := open_setup hcs g0
  obtain ⟨ls, rfl, y1⟩ := open_steps g1
  obtain ⟨im, rfl, m1, m2, _, m3⟩ := open_bytes g2
  obtain ⟨z1, z2, z3⟩ := e7 fun n hn => hw n (.inl hn)
  obtain ⟨y2, y3⟩ := y1 fun n hn => hw n (.inr (.inl hn))
  have m4 := m3 fun n hn => hw n (.inr (.inr hn))
  rw [hv] at hW' h0k ⊢
  have hreach : reachBytes ≤ 140737488355328 := by decide
  refine (walk B S ia ga fa sa ma ic gc fc sc mc l lg im F ls W e1 e3 e5 y2 m1 e2 e4 e6 m2 (Nat.le_trans z1 hreach) (Nat.le_trans z2 hreach) (Nat.le_trans z3 hreach) (Nat.le_trans y3 hreach) (Nat.le_trans m4 hreach)).mono fun e W' ⟨he, hk⟩ => ?_
  subst he
  have hB : Below W.heap.size W W' := Same.below hk (Nat.le_refl _) (fun _ h => h.elim)
  refine ⟨_, rfl, _, _, _, [], p0 ++ (p1 ++ p2), [], hW', trodAll_cons_mk (shut_bool Try.underlying4 _) trodAll_mk0, ?_, rfl, hB.frame _, fun h => by cases h⟩
  show DataW.TrodAll enc Try.prog W' 0 _ true Try.f4.params.toList [setupV B S ia ga fa l.length ic lg.length gc F.length fc, .slice sa ls.length sc, .slice ma im.length mc] [d0, d1, d2] (p0 ++ (p1 ++ p2))
  rw [Try.params4]
  have hA2 := trodAll_cons_mk (Below.trod Try.laid3 (by kernel_rfl) (of_decide_eq_true (by kernel_rfl)) h2k hB (fun x hx => hlt x (by simp [hx]))) trodAll_mk0
  rw [List.append_nil] at hA2
  exact trodAll_cons_mk (Below.trod Try.laid3 (by kernel_rfl) (of_decide_eq_true (by kernel_rfl)) h0k hB (fun x hx => hlt x (by simp [hx]))) (trodAll_cons_mk (Below.trod Try.laid3 (by kernel_rfl) (of_decide_eq_true (by kernel_rfl)) h1k hB (fun x hx => hlt x (by simp [hx]))) hA2)

theorem proved : Rows.DeviceRestartSaid :=
  OpenClaim.holds_of_wide 4 Try.f4 rfl rfl rfl rfl rfl rfl rfl ⟨rfl, rfl, rfl, rfl, rfl⟩ rfl rfl rfl rfl rfl (by kernel_rfl) Try.func4 (by kernel_rfl)
    (of_decide_eq_true (by kernel_rfl)) (by unfold Func.isWrapper; first | (rw [if_pos (by decide +kernel)]; kernel_rfl) | (rw [if_neg (by decide +kernel)]; exact ⟨rfl, rfl⟩))
    (fun os started H enc _ => lifted os started H enc)
#print axioms proved
end Go.Proofs.Ytagkgenhgllglaa.deviceRestart
