/- What is proved: the given statement on DevicePlays: for every setup and script the law returns true, and its arguments read as before; no condition. -/
import Derived.Test.YtagkgenhgllglaaDRvS
import Derived.Test.YtagkgenhgllglaaDRvT
namespace Go.Proofs.Ytagkgenhgllglaa.devicePlays
open Go.ChangeShapes Go.WideShapes Go.ChangeAt Go.RowKit

theorem own : ownKnob Try.prog.godebug = none := by kernel_rfl

theorem walk (B S : Int) (ia ga fa sa : Option Addr) (ic gc fc sc : Nat) (l lg : List Int) (F : List Fl) (ls : List St) (w : World) (hl : BytesAt w ia l) (hg : BytesAt w ga lg) (hF : FaultsAt w fa F) (hs : StepsAt w sa ls) (hnl : ia = none → l.length = 0 ∧ ic = 0) (hng : ga = none → lg.length = 0 ∧ gc = 0) (hnf : fa = none → F.length = 0 ∧ fc = 0)
    (b1 : l.length ≤ 140737488355328) (b2 : lg.length ≤ 140737488355328) (b3 : F.length * 32 ≤ 140737488355328) (b4 : ls.length * 40 ≤ 140737488355328) :
    Calls Try.prog 3 #[setupV B S ia ga fa l.length ic lg.length gc F.length fc, .slice sa ls.length sc] w fun e w' => e = .returned (.bool true) ∧ Kept w w' := by
  by_cases hc : chk B S l.length lg.length F = 0
  · have h1 : okG B S = true := by
      unfold chk at hc
      by_cases h1 : okG B S = false
      · rw [if_pos h1] at hc; cases hc
      · simpa using h1
    obtain ⟨b, s, rfl, rfl, _, _, _⟩ := okG_nat h1
    exact plays_yes b s ia ga fa sa ic gc fc sc l lg F ls w hl hg hF hs hnl hng hnf b1 b2 b3 b4 hc
  · exact plays_no B S ia ga fa ic gc fc l lg F _ w hl hg hF hnl hng hnf b1 b2 b3 hc

set_option maxRecDepth 100000 in
theorem lifted (os : Os) (started : os.Started) (H : Type) (enc : TypeId × Value → H) :
    ReturnsInHanded {} Try.checked os 3 .any (Rows.devicePlaysSpec.pre6 enc Try.prog Try.f3 Rows.devicePlaysRow.domain false) (Rows.devicePlaysSpec.post enc Try.prog Try.f3 false true false false) := by
  refine returnsInHanded_of_change_sized (C := Try.checked) own started (by kernel_rfl) Try.func3
    (ChangeSpec.witness6 (enc := enc) (C := Try.checked) false ⟨#[], #[.agg #[.int .i64 0, .int .i64 0, .slice none 0 0, .slice none 0 0, .slice none 0 0], .slice none 0 0], []⟩ 8 (by kernel_rfl) (by kernel_rfl) (by kernel_rfl) (by kernel_rfl)) ?_
  intro W base args ds gs before hval0 hW hcnd hsz _
  have hval : ∀ (j : Nat) t v, Try.f3.params[j]? = some t → args[j]? = some v → Value.okWide Try.prog W .any base t v := hval0
  have hW' := hW
  obtain ⟨p, q, hA0, hV, rfl, hfz, hnd⟩ := hW
  have hA : DataW.TrodAll enc Try.prog W 0 (fun _ => true) true Try.f3.params.toList args.toList ds p := hA0
  have hP : Try.f3.params.toList = [25, 26] := by kernel_rfl
  rw [Try.params3] at hA hval
  obtain ⟨v0, vs0, d0, ds0, p0, q0, hargs, rfl, rfl, h0, r0⟩ := trodAll_cons hA
  obtain ⟨v1, vs1, d1, ds1, p1, q1, hargs1, rfl, rfl, h1, r1⟩ := trodAll_cons r0
  obtain ⟨rfl, rfl, rfl⟩ := trodAll_nil r1
  obtain rfl : args = #[v0, v1] := by cases args; simp_all
  obtain ⟨rfl, rfl⟩ := trodVars_none hV
  have hw : ∀ n, n ∈ d0.weights Try.prog 25 ∨ n ∈ d1.weights Try.prog 26 → n ≤ reachBytes := fun n hn => by
    rw [hP, List.append_nil] at hsz
    have := List.all_eq_true.1 hsz n (by
      simp only [List.cons_append, DataW.weightsEach, List.mem_append]
      exact hn.imp id .inl)
    simpa using this
  obtain ⟨cs, rfl, hcs⟩ := okWide_struct Try.underlying25 (hval 0 25 v0 rfl rfl)
  obtain ⟨sa, nn, sc, rfl⟩ := okWide_slice Try.underlying26 (hval 1 26 v1 rfl rfl)
  clear hA0 hval0
  simp only [List.append_nil] at hW'
  have hlt : ∀ x ∈ p0 ++ p1, x.block < W.heap.size := fun x hx => hW'.lt x (by simpa using hx)
  have h0k := h0
  have h1k := h1
  obtain ⟨fuel0, h0'⟩ := h0
  obtain ⟨fuel1, h1'⟩ := h1
  have g0 : DataW.trod enc Try.prog W 0 (fun _ => true) true fuel0 25 cs.toList = some (d0, p0) := by simpa [Value.cells] using h0'
  have g1 : DataW.trod enc Try.prog W 0 (fun _ => true) true fuel1 26 [.slice sa nn sc] = some (d1, p1) := by simpa [Value.cells] using h1'
  obtain ⟨B, S, ia, ga, fa, ic, gc, fc, l, lg, F, hv, iB, iS, e1, e2, e3, e4, e5, e6, e7⟩ := open_setup hcs g0
  obtain ⟨ls, rfl, y1⟩ := open_steps g1
  obtain ⟨z1, z2, z3⟩ := e7 fun n hn => hw n (.inl hn)
  obtain ⟨y2, y3⟩ := y1 fun n hn => hw n (.inr hn)
  rw [hv] at hW' h0k ⊢
  have hreach : reachBytes ≤ 140737488355328 := by decide
  refine (walk B S ia ga fa sa ic gc fc sc l lg F ls W e1 e3 e5 y2 e2 e4 e6 (Nat.le_trans z1 hreach) (Nat.le_trans z2 hreach) (Nat.le_trans z3 hreach) (Nat.le_trans y3 hreach)).mono fun e W' ⟨he, hk⟩ => ?_
  subst he
  have hB : Below W.heap.size W W' := Same.below hk (Nat.le_refl _) (fun _ h => h.elim)
  refine ⟨_, rfl, _, _, _, [], p0 ++ p1, [], hW', trodAll_cons_mk (shut_bool Try.underlying4 _) trodAll_mk0, ?_, rfl, hB.frame _, fun h => by cases h⟩
  show DataW.TrodAll enc Try.prog W' 0 _ true Try.f3.params.toList [setupV B S ia ga fa l.length ic lg.length gc F.length fc, .slice sa ls.length sc] [d0, d1] (p0 ++ p1)
  rw [Try.params3]
  have hA2 := trodAll_cons_mk (Below.trod Try.laid3 (by kernel_rfl) (of_decide_eq_true (by kernel_rfl)) h1k hB (fun x hx => hlt x (by simp [hx]))) trodAll_mk0
  rw [List.append_nil] at hA2
  exact trodAll_cons_mk (Below.trod Try.laid3 (by kernel_rfl) (of_decide_eq_true (by kernel_rfl)) h0k hB (fun x hx => hlt x (by simp [hx]))) hA2

theorem proved : Rows.DevicePlaysSaid :=
  OpenClaim.holds_of_wide 3 Try.f3 rfl rfl rfl rfl rfl rfl rfl ⟨rfl, rfl, rfl, rfl, rfl⟩ rfl rfl rfl rfl rfl (by kernel_rfl) Try.func3 (by kernel_rfl)
    (of_decide_eq_true (by kernel_rfl)) (by unfold Func.isWrapper; first | (rw [if_pos (by decide +kernel)]; kernel_rfl) | (rw [if_neg (by decide +kernel)]; exact ⟨rfl, rfl⟩))
    (fun os started H enc _ => lifted os started H enc)
#print axioms proved
end Go.Proofs.Ytagkgenhgllglaa.devicePlays
