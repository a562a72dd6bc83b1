/- What is proved: the given statement on RulesMachine: for every argument the law returns true, and its arguments read as before; no condition. -/
import Derived.Test.YtbjmdpfoeeadeaaJMcL
namespace Go.Proofs.Ytbjmdpfoeeadeaa.rulesMachine
open Go.ChangeShapes Go.WideShapes Go.ChangeAt Go.RowKit

theorem own : ownKnob Try.prog.godebug = none := by kernel_rfl

theorem le_max {n : Int} (h : (Lit.int IntKind.i64 n).wf = true) : n ≤ 9223372036854775807 := by
  have h : (decide (IntKind.i64.min ≤ n) && decide (n ≤ IntKind.i64.max)) = true := h
  rw [Bool.and_eq_true] at h
  exact of_decide_eq_true h.2
theorem walk (ns fl : Int) (a : Option Addr) (c : Nat) (l : List Ch.Mc.Stp) (turn : Int) (w : World) (h : Ch.Mc.ArgS w a l) (_ : (Lit.int IntKind.i64 ns).wf = true) (_ : (Lit.int IntKind.i64 fl).wf = true) (h3 : (Lit.int IntKind.i64 turn).wf = true) :
    Calls Try.prog 8 #[.int .i64 ns, .int .i64 fl, .slice a l.length c, .int .i64 turn] w fun e w' => e = .returned (.bool true) ∧ Kept w w' := Sw.machine_law ns fl turn l a c w h (le_max h3)

set_option maxRecDepth 100000 in
theorem lifted (os : Os) (started : os.Started) (H : Type) (enc : TypeId × Value → H) :
    ReturnsInHanded {} Try.checked os 8 .any (Rows.rulesMachineSpec.pre6 enc Try.prog Try.f8 Rows.rulesMachineRow.domain false) (Rows.rulesMachineSpec.post enc Try.prog Try.f8 false true false false) := by
  refine returnsInHanded_of_change_sized (C := Try.checked) own started (by kernel_rfl) Try.func8
    (ChangeSpec.witness6 (enc := enc) (C := Try.checked) false ⟨#[], #[.int .i64 0, .int .i64 0, .slice none 0 0, .int .i64 0], []⟩ 8 (by kernel_rfl) (by kernel_rfl) (by kernel_rfl) (by kernel_rfl)) ?_
  intro W base args ds gs before hval0 hW hcnd hsz _
  have hval : ∀ (j : Nat) t v, Try.f8.params[j]? = some t → args[j]? = some v → Value.okWide Try.prog W .any base t v := hval0
  have hW' := hW
  obtain ⟨p, q, hA0, hV, rfl, hfz, hnd⟩ := hW
  have hA : DataW.TrodAll enc Try.prog W 0 (fun _ => true) true Try.f8.params.toList args.toList ds p := hA0
  have hP : Try.f8.params.toList = [3, 3, 63, 3] := by kernel_rfl
  rw [Try.params8] at hA hval
  obtain ⟨v0, vs0, d0, ds0, p0, q0, hargs0, rfl, rfl, h0, r0⟩ := trodAll_cons hA
  obtain ⟨v1, vs1, d1, ds1, p1, q1, hargs1, rfl, rfl, h1, r1⟩ := trodAll_cons r0
  obtain ⟨v2, vs2, d2, ds2, p2, q2, hargs2, rfl, rfl, h2, r2⟩ := trodAll_cons r1
  obtain ⟨v3, vs3, d3, ds3, p3, q3, hargs3, rfl, rfl, h3, r3⟩ := trodAll_cons r2
  obtain ⟨rfl, rfl, rfl⟩ := trodAll_nil r3
  obtain rfl : args = #[v0, v1, v2, v3] := by cases args; simp_all
  obtain ⟨rfl, rfl⟩ := trodVars_none hV
  rw [hP, List.append_nil] at hsz
  have hw2 : ∀ n ∈ d2.weights Try.prog 63, n ≤ reachBytes := fun n hn => by
    have := List.all_eq_true.1 hsz n (by
      simp only [List.cons_append, DataW.weightsEach, List.mem_append]
      exact .inr (.inr (.inl hn)))
    simpa using this
  obtain ⟨a0, rfl, rfl, rfl, w0⟩ := open_int Try.underlying3 (hval 0 3 v0 rfl rfl) h0
  obtain ⟨a1, rfl, rfl, rfl, w1⟩ := open_int Try.underlying3 (hval 1 3 v1 rfl rfl) h1
  obtain ⟨s2, n2, c2, rfl⟩ := okWide_slice Try.underlying63 (hval 2 63 v2 rfl rfl)
  obtain ⟨a3, rfl, rfl, rfl, w3⟩ := open_int Try.underlying3 (hval 3 3 v3 rfl rfl) h3
  clear hA0 hval0
  simp only [List.append_nil] at hW'
  have hlt2 : ∀ x ∈ p2, x.block < W.heap.size := fun x hx => by simpa using hW'.lt x (by simp [hx])
  have k2 := h2
  obtain ⟨fuel2, g2⟩ := h2
  have e2 : DataW.trod enc Try.prog W 0 (fun _ => true) true fuel2 63 [.slice s2 n2 c2] = some (d2, p2) := by simpa [Value.cells] using g2
  obtain ⟨l2, rfl, f2⟩ := Ch.Mc.open_steps e2
  have f2 := f2 hw2
  refine (walk a0 a1 s2 c2 l2 a3 W f2 w0 w1 w3).mono fun e W' ⟨he, hk⟩ => ?_
  subst he
  have hB : Below W.heap.size W W' := Same.below hk (Nat.le_refl _) (fun _ h => h.elim)
  refine ⟨_, rfl, _, _, _, [], p2, [], hW', trodAll_cons_mk (shut_bool Try.underlying4 _) trodAll_mk0, ?_, rfl, hB.frame _, fun h => by cases h⟩
  show DataW.TrodAll enc Try.prog W' 0 _ true Try.f8.params.toList [.int .i64 a0, .int .i64 a1, .slice s2 l2.length c2, .int .i64 a3] [.lit (.int .i64 a0), .lit (.int .i64 a1), d2, .lit (.int .i64 a3)] _
  rw [Try.params8]
  have hA2 := trodAll_cons_mk (shut_int Try.underlying3 w0) (trodAll_cons_mk (shut_int Try.underlying3 w1) (trodAll_cons_mk (Below.trod Ch.Mc.Try.laid5 (by kernel_rfl) (of_decide_eq_true (by kernel_rfl)) k2 hB hlt2) (trodAll_cons_mk (shut_int Try.underlying3 w3) trodAll_mk0)))
  simpa only [List.append_nil, List.nil_append] using hA2

theorem proved : Rows.RulesMachineSaid :=
  OpenClaim.holds_of_wide 8 Try.f8 rfl rfl rfl rfl rfl rfl rfl ⟨rfl, rfl, rfl, rfl, rfl⟩ rfl rfl rfl rfl rfl (by kernel_rfl) Try.func8 (by kernel_rfl)
    (of_decide_eq_true (by kernel_rfl)) (by unfold Func.isWrapper; first | (rw [if_pos (by decide +kernel)]; kernel_rfl) | (rw [if_neg (by decide +kernel)]; exact ⟨rfl, rfl⟩))
    (fun os started H enc _ => lifted os started H enc)
#print axioms proved
end Go.Proofs.Ytbjmdpfoeeadeaa.rulesMachine
