/- What is proved: the given statement on RulesSkew: for every argument the law returns true, and its arguments read as before; no condition. -/
import Derived.Test.YtbjmdpfoeeadeaaJSkL
namespace Go.Proofs.Ytbjmdpfoeeadeaa.rulesSkew
open Go.ChangeShapes Go.WideShapes Go.ChangeAt Go.RowKit

theorem own : ownKnob Try.prog.godebug = none := by kernel_rfl

theorem walk (t : TxM) (a : Option Addr) (c : Nat) (eps more shift : Int) (w : World) (h : ArgT w t a c) (_ : (Lit.int IntKind.i64 eps).wf = true) (_ : (Lit.int IntKind.i64 more).wf = true) (_ : (Lit.int IntKind.i64 shift).wf = true) :
    Calls Try.prog 5 #[txV t (.slice a t.ops.length c), .int .i64 eps, .int .i64 more, .int .i64 shift] w fun e w' => e = .returned (.bool true) ∧ Kept w w' := Sw.skew_law t eps more shift a c w h

set_option maxRecDepth 100000 in
theorem lifted (os : Os) (started : os.Started) (H : Type) (enc : TypeId × Value → H) :
    ReturnsInHanded {} Try.checked os 5 .any (Rows.rulesSkewSpec.pre6 enc Try.prog Try.f5 Rows.rulesSkewRow.domain false) (Rows.rulesSkewSpec.post enc Try.prog Try.f5 false true false false) := by
  refine returnsInHanded_of_change_sized (C := Try.checked) own started (by kernel_rfl) Try.func5
    (ChangeSpec.witness6 (enc := enc) (C := Try.checked) false ⟨#[], #[.agg #[.int .i64 0, .int .i64 0, .int .i64 0, .int .i64 0, .int .i64 0, .int .i64 0, .int .i64 0, .slice none 0 0], .int .i64 0, .int .i64 0, .int .i64 0], []⟩ 8 (by kernel_rfl) (by kernel_rfl) (by kernel_rfl) (by kernel_rfl)) ?_
  intro W base args ds gs before hval0 hW hcnd hsz _
  have hval : ∀ (j : Nat) t v, Try.f5.params[j]? = some t → args[j]? = some v → Value.okWide Try.prog W .any base t v := hval0
  have hW' := hW
  obtain ⟨p, q, hA0, hV, rfl, hfz, hnd⟩ := hW
  have hA : DataW.TrodAll enc Try.prog W 0 (fun _ => true) true Try.f5.params.toList args.toList ds p := hA0
  have hP : Try.f5.params.toList = [24, 3, 3, 3] := by kernel_rfl
  rw [Try.params5] at hA hval
  obtain ⟨v0, vs0, d0, ds0, p0, q0, hargs0, rfl, rfl, h0, r0⟩ := trodAll_cons hA
  obtain ⟨v1, vs1, d1, ds1, p1, q1, hargs1, rfl, rfl, h1, r1⟩ := trodAll_cons r0
  obtain ⟨v2, vs2, d2, ds2, p2, q2, hargs2, rfl, rfl, h2, r2⟩ := trodAll_cons r1
  obtain ⟨v3, vs3, d3, ds3, p3, q3, hargs3, rfl, rfl, h3, r3⟩ := trodAll_cons r2
  obtain ⟨rfl, rfl, rfl⟩ := trodAll_nil r3
  obtain rfl : args = #[v0, v1, v2, v3] := by cases args; simp_all
  obtain ⟨rfl, rfl⟩ := trodVars_none hV
  rw [hP, List.append_nil] at hsz
  have hw0 : ∀ n ∈ d0.weights Try.prog 24, n ≤ reachBytes := fun n hn => by
    have := List.all_eq_true.1 hsz n (by
      simp only [List.cons_append, DataW.weightsEach, List.mem_append]
      exact .inl hn)
    simpa using this
  obtain ⟨cs0, rfl, hcs0⟩ := okWide_struct Try.underlying24 (hval 0 24 v0 rfl rfl)
  obtain ⟨a1, rfl, rfl, rfl, w1⟩ := open_int Try.underlying3 (hval 1 3 v1 rfl rfl) h1
  obtain ⟨a2, rfl, rfl, rfl, w2⟩ := open_int Try.underlying3 (hval 2 3 v2 rfl rfl) h2
  obtain ⟨a3, rfl, rfl, rfl, w3⟩ := open_int Try.underlying3 (hval 3 3 v3 rfl rfl) h3
  clear hA0 hval0
  simp only [List.append_nil] at hW'
  have hlt0 : ∀ x ∈ p0, x.block < W.heap.size := fun x hx => by simpa using hW'.lt x (by simp [hx])
  have k0 := h0
  obtain ⟨fuel0, g0⟩ := h0
  have e0 : DataW.trod enc Try.prog W 0 (fun _ => true) true fuel0 24 cs0.toList = some (d0, p0) := by simpa [Value.cells] using g0
  obtain ⟨t0, s0, c0, hv0, f0⟩ := open_txn hcs0 e0
  have f0 := f0 hw0
  rw [hv0] at hW' k0 ⊢
  refine (walk t0 s0 c0 a1 a2 a3 W f0 w1 w2 w3).mono fun e W' ⟨he, hk⟩ => ?_
  subst he
  have hB : Below W.heap.size W W' := Same.below hk (Nat.le_refl _) (fun _ h => h.elim)
  refine ⟨_, rfl, _, _, _, [], p0, [], hW', trodAll_cons_mk (shut_bool Try.underlying4 _) trodAll_mk0, ?_, rfl, hB.frame _, fun h => by cases h⟩
  show DataW.TrodAll enc Try.prog W' 0 _ true Try.f5.params.toList [txV t0 (.slice s0 t0.ops.length c0), .int .i64 a1, .int .i64 a2, .int .i64 a3] [d0, .lit (.int .i64 a1), .lit (.int .i64 a2), .lit (.int .i64 a3)] _
  rw [Try.params5]
  have hA2 := trodAll_cons_mk (Below.trod Try.laid5 (by kernel_rfl) (of_decide_eq_true (by kernel_rfl)) k0 hB hlt0) (trodAll_cons_mk (shut_int Try.underlying3 w1) (trodAll_cons_mk (shut_int Try.underlying3 w2) (trodAll_cons_mk (shut_int Try.underlying3 w3) trodAll_mk0)))
  simpa only [List.append_nil, List.nil_append] using hA2

theorem proved : Rows.RulesSkewSaid :=
  OpenClaim.holds_of_wide 5 Try.f5 rfl rfl rfl rfl rfl rfl rfl ⟨rfl, rfl, rfl, rfl, rfl⟩ rfl rfl rfl rfl rfl (by kernel_rfl) Try.func5 (by kernel_rfl)
    (of_decide_eq_true (by kernel_rfl)) (by unfold Func.isWrapper; first | (rw [if_pos (by decide +kernel)]; kernel_rfl) | (rw [if_neg (by decide +kernel)]; exact ⟨rfl, rfl⟩))
    (fun os started H enc _ => lifted os started H enc)
#print axioms proved
end Go.Proofs.Ytbjmdpfoeeadeaa.rulesSkew
