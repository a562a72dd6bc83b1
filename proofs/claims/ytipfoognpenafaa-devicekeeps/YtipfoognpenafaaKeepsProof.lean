/- What is proved: the given statement on DeviceKeeps: for every setup, block and data the law returns true, and its arguments read as before; no condition. -/
import Derived.Test.YtipfoognpenafaaDKeepA
import Derived.Test.YtipfoognpenafaaDKeepB
import Derived.Test.YtipfoognpenafaaDKeepC
import Derived.Test.YtipfoognpenafaaDOpen
namespace Go.Proofs.Ytipfoognpenafaa.deviceKeeps
open Go.ChangeShapes Go.WideShapes Go.ChangeAt Go.RowKit

theorem own : ownKnob Try.prog.godebug = none := by kernel_rfl

theorem walk (B S at' : Int) (ia ga fa da : Option Addr) (ic gc nf fc dc : Nat) (l lg ld : List Int) (w : World) (hl : BytesAt w ia l) (hg : BytesAt w ga lg) (hd0 : BytesAt w da ld) (hnl : ia = none → l.length = 0 ∧ ic = 0) (hng : ga = none → lg.length = 0 ∧ gc = 0) (hnd : da = none → ld.length = 0 ∧ dc = 0)
    (b1 : l.length ≤ 140737488355328) (b2 : lg.length ≤ 140737488355328) (b3 : ld.length ≤ 140737488355328) :
    Calls Try.prog 5 #[setupV B S ia ga fa l.length ic lg.length gc nf fc, .int .i64 at', .slice da ld.length dc] w fun e w' => e = .returned (.bool true) ∧ Kept w w' := by
  by_cases hc : chk B S l.length lg.length [] = 0
  · have h1 : okG B S = true := by
      unfold chk at hc
      by_cases h1 : okG B S = false
      · rw [if_pos h1] at hc; cases hc
      · simpa using h1
    obtain ⟨b, s, rfl, rfl, _, _, _⟩ := okG_nat h1
    by_cases hf : at' < 0 ∨ (s : Int) ≤ at' ∨ ld.length ≠ b
    · exact keeps_unfit b s at' ia ga fa da ic gc nf fc dc l lg ld w hl hg hd0 hnl hng hnd b1 b2 b3 hc hf
    · obtain ⟨n, rfl⟩ := Int.eq_ofNat_of_zero_le (show 0 ≤ at' by omega)
      exact keeps_fit b s n ia ga fa da ic gc nf fc dc l lg ld w hl hg hd0 hnl hng hnd b1 b2 b3 hc ⟨by omega, by omega⟩
  · exact keeps_no B S at' ia ga fa da ic gc nf fc ld.length dc l lg w hl hg hnl hng b1 b2 hc

set_option maxRecDepth 100000 in
theorem lifted (os : Os) (started : os.Started) (H : Type) (enc : TypeId × Value → H) :
    ReturnsInHanded {} Try.checked os 5 .any (Rows.deviceKeepsSpec.pre6 enc Try.prog Try.f5 Rows.deviceKeepsRow.domain false) (Rows.deviceKeepsSpec.post enc Try.prog Try.f5 false true false false) := by
  refine returnsInHanded_of_change_sized (C := Try.checked) own started (by kernel_rfl) Try.func5
    (ChangeSpec.witness6 (enc := enc) (C := Try.checked) false ⟨#[], #[.agg #[.int .i64 0, .int .i64 0, .slice none 0 0, .slice none 0 0, .slice none 0 0], .int .i64 0, .slice none 0 0], []⟩ 8 (by kernel_rfl) (by kernel_rfl) (by kernel_rfl) (by kernel_rfl)) ?_
  intro W base args ds gs before hval0 hW hcnd hsz _
  have hval : ∀ (j : Nat) t v, Try.f5.params[j]? = some t → args[j]? = some v → Value.okWide Try.prog W .any base t v := hval0
  have hW' := hW
  obtain ⟨p, q, hA0, hV, rfl, hfz, hnd⟩ := hW
  have hA : DataW.TrodAll enc Try.prog W 0 (fun _ => true) true Try.f5.params.toList args.toList ds p := hA0
  have hP : Try.f5.params.toList = [25, 3, 22] := by kernel_rfl
  rw [Try.params5] at hA hval
  obtain ⟨v0, vs0, d0, ds0, p0, q0, hargs, rfl, rfl, h0, r0⟩ := trodAll_cons hA
  obtain ⟨v1, vs1, d1, ds1, p1, q1, hargs1, rfl, rfl, h1, r1⟩ := trodAll_cons r0
  obtain ⟨v2, vs2, d2, ds2, p2, q2, hargs2, rfl, rfl, h2, r2⟩ := trodAll_cons r1
  obtain ⟨rfl, rfl, rfl⟩ := trodAll_nil r2
  obtain rfl : args = #[v0, v1, v2] := by cases args; simp_all
  obtain ⟨rfl, rfl⟩ := trodVars_none hV
  have hw : ∀ n ∈ DataW.weightsEach Try.prog [25, 3, 22] [d0, d1, d2], n ≤ reachBytes := fun n hn => by
    rw [hP, List.append_nil] at hsz
    have := List.all_eq_true.1 hsz n (by
      have e : ∀ (ts ts' : List TypeId) (l : List (DataW H)), n ∈ DataW.weightsEach Try.prog ts l → n ∈ DataW.weightsEach Try.prog (ts ++ ts') l := by
        intro ts
        induction ts with
        | nil => intro ts' l h; simp [DataW.weightsEach] at h
        | cons t ts ih =>
          intro ts' l h
          cases l with
          | nil => simp [DataW.weightsEach] at h
          | cons d r =>
            simp only [DataW.weightsEach, List.cons_append, List.mem_append] at h ⊢
            exact h.imp id (ih ts' r)
      exact e _ _ _ hn)
    simpa using this
  simp only [DataW.weightsEach, List.mem_append] at hw
  obtain ⟨cs, rfl, hcs⟩ := okWide_struct Try.underlying25 (hval 0 25 v0 rfl rfl)
  obtain ⟨a1, rfl, rfl, rfl, w1⟩ := open_int Try.underlying3 (hval 1 3 v1 rfl rfl) h1
  obtain ⟨da, nd, dc, rfl⟩ := okWide_slice Try.underlying22 (hval 2 22 v2 rfl rfl)
  clear hA0 hval0
  simp only [List.append_nil, List.nil_append] at hW'
  have hlt : ∀ x ∈ p0 ++ p2, x.block < W.heap.size := fun x hx => hW'.lt x (by simpa using hx)
  have h0k := h0
  have h2k := h2
  obtain ⟨fuel0, h0'⟩ := h0
  obtain ⟨fuel2, h2'⟩ := h2
  have g0 : DataW.trod enc Try.prog W 0 (fun _ => true) true fuel0 25 cs.toList = some (d0, p0) := by simpa [Value.cells] using h0'
  have g2 : DataW.trod enc Try.prog W 0 (fun _ => true) true fuel2 22 [.slice da nd dc] = some (d2, p2) := by simpa [Value.cells] using h2'
  obtain ⟨B, S, ia, ga, fa, ic, gc, fc, l, lg, F, hv, iB, iS, e1, e2, e3, e4, e5, e6, e7⟩ := open_setup hcs g0
  obtain ⟨ld, rfl, y1, y2, _, y3⟩ := open_bytes g2
  obtain ⟨z1, z2, z3⟩ := e7 fun n hn => hw n (.inl hn)
  have z4 := y3 fun n hn => hw n (.inr (.inr (.inl hn)))
  rw [hv] at hW' h0k ⊢
  have hreach : reachBytes ≤ 140737488355328 := by decide
  refine (walk B S a1 ia ga fa da ic gc F.length fc dc l lg ld W e1 e3 y1 e2 e4 y2 (Nat.le_trans z1 hreach) (Nat.le_trans z2 hreach) (Nat.le_trans z4 hreach)).mono fun e W' ⟨he, hk⟩ => ?_
  subst he
  have hB : Below W.heap.size W W' := Same.below hk (Nat.le_refl _) (fun _ h => h.elim)
  refine ⟨_, rfl, _, _, _, [], p0 ++ p2, [], hW', trodAll_cons_mk (shut_bool Try.underlying4 _) trodAll_mk0, ?_, rfl, hB.frame _, fun h => by cases h⟩
  show DataW.TrodAll enc Try.prog W' 0 _ true Try.f5.params.toList [setupV B S ia ga fa l.length ic lg.length gc F.length fc, .int .i64 a1, .slice da ld.length dc] [d0, .lit (.int .i64 a1), d2] (p0 ++ p2)
  rw [Try.params5]
  have hA2 := trodAll_cons_mk (Below.trod Try.laid3 (by kernel_rfl) (of_decide_eq_true (by kernel_rfl)) h2k hB (fun x hx => hlt x (by simp [hx]))) trodAll_mk0
  rw [List.append_nil] at hA2
  have hA1 := trodAll_cons_mk (shut_int Try.underlying3 w1) hA2
  rw [List.nil_append] at hA1
  exact trodAll_cons_mk (Below.trod Try.laid3 (by kernel_rfl) (of_decide_eq_true (by kernel_rfl)) h0k hB (fun x hx => hlt x (by simp [hx]))) hA1

theorem proved : Rows.DeviceKeepsSaid :=
  OpenClaim.holds_of_wide 5 Try.f5 rfl rfl rfl rfl rfl rfl rfl ⟨rfl, rfl, rfl, rfl, rfl⟩ rfl rfl rfl rfl rfl (by kernel_rfl) Try.func5 (by kernel_rfl)
    (of_decide_eq_true (by kernel_rfl)) (by unfold Func.isWrapper; first | (rw [if_pos (by decide +kernel)]; kernel_rfl) | (rw [if_neg (by decide +kernel)]; exact ⟨rfl, rfl⟩))
    (fun os started H enc _ => lifted os started H enc)
#print axioms proved
end Go.Proofs.Ytipfoognpenafaa.deviceKeeps
