/- What is proved: the given statement on MachineEmits: for every argument the law returns true, and its arguments read as before; no condition. -/
import Derived.Test.YtmghmacgljihcaaKREu
import Derived.Test.YtmghmacgljihcaaKOpE
namespace Go.Proofs.Ytmghmacgljihcaa.machineEmits
open Go.ChangeShapes Go.WideShapes Go.ChangeAt Go.RowKit

theorem own : ownKnob Try.prog.godebug = none := by kernel_rfl

theorem walk (n0 fl : Int) (a : Option Addr) (cap : Nat) (l : List Stp) (w : World) (h : ArgC w a cap l) (_ : (Lit.int .i64 n0).wf = true) (_ : (Lit.int .i64 fl).wf = true) :
    Calls Try.prog 4 #[.int .i64 n0, .int .i64 fl, .slice a l.length cap] w fun e w' => e = .returned (.bool true) ∧ Kept w w' := emits_law h.1.1 h.1.2.1 h.1.2.2 h.2 n0 fl

set_option maxRecDepth 100000 in
theorem lifted (os : Os) (started : os.Started) (H : Type) (enc : TypeId × Value → H) :
    ReturnsInHanded {} Try.checked os 4 .any (Rows.machineEmitsSpec.pre6 enc Try.prog Try.f4 Rows.machineEmitsRow.domain false) (Rows.machineEmitsSpec.post enc Try.prog Try.f4 false true false false) := by
  refine returnsInHanded_of_change_sized (C := Try.checked) own started (by kernel_rfl) Try.func4
    (ChangeSpec.witness6 (enc := enc) (C := Try.checked) false ⟨#[], #[.int .i64 0, .int .i64 0, .slice none 0 0], []⟩ 8 (by kernel_rfl) (by kernel_rfl) (by kernel_rfl) (by kernel_rfl)) ?_
  intro W base args ds gs before hval0 hW hcnd hsz _
  have hval : ∀ (j : Nat) t v, Try.f4.params[j]? = some t → args[j]? = some v → Value.okWide Try.prog W .any base t v := hval0
  have hW' := hW
  obtain ⟨p, q, hA0, hV, rfl, hfz, hnd⟩ := hW
  have hA : DataW.TrodAll enc Try.prog W 0 (fun _ => true) true Try.f4.params.toList args.toList ds p := hA0
  have hP : Try.f4.params.toList = [3, 3, 22] := by kernel_rfl
  rw [Try.params4] at hA hval
  obtain ⟨v0, vs0, d0, ds0, p0, q0, hargs0, rfl, rfl, h0, r0⟩ := trodAll_cons hA
  obtain ⟨v1, vs1, d1, ds1, p1, q1, hargs1, rfl, rfl, h1, r1⟩ := trodAll_cons r0
  obtain ⟨v2, vs2, d2, ds2, p2, q2, hargs2, rfl, rfl, h2, r2⟩ := trodAll_cons r1
  obtain ⟨rfl, rfl, rfl⟩ := trodAll_nil r2
  obtain rfl : args = #[v0, v1, v2] := by cases args; simp_all
  obtain ⟨rfl, rfl⟩ := trodVars_none hV
  rw [hP, List.append_nil] at hsz
  have hw2 : ∀ n ∈ d2.weights Try.prog 22, n ≤ reachBytes := fun n hn => by
    have := List.all_eq_true.1 hsz n (by
      simp only [List.cons_append, DataW.weightsEach, List.mem_append]
      exact .inr (.inr (.inl hn)))
    simpa using this
  obtain ⟨a0, rfl, rfl, rfl, w0⟩ := open_int Try.underlying3 (hval 0 3 v0 rfl rfl) h0
  obtain ⟨a1, rfl, rfl, rfl, w1⟩ := open_int Try.underlying3 (hval 1 3 v1 rfl rfl) h1
  obtain ⟨s2, n2, c2, rfl⟩ := okWide_slice Try.underlying22 (hval 2 22 v2 rfl rfl)
  clear hA0 hval0
  simp only [List.append_nil] at hW'
  have hlt2 : ∀ x ∈ p2, x.block < W.heap.size := fun x hx => by simpa using hW'.lt x (by simp [hx])
  have k2 := h2
  obtain ⟨fuel2, g2⟩ := h2
  have e2 : DataW.trod enc Try.prog W 0 (fun _ => true) true fuel2 22 [.slice s2 n2 c2] = some (d2, p2) := by simpa [Value.cells] using g2
  obtain ⟨l2, rfl, f2⟩ := open_stepsC e2
  have f2 := f2 hw2
  refine (walk a0 a1 s2 c2 l2 W f2 w0 w1).mono fun e W' ⟨he, hk⟩ => ?_
  subst he
  have hB : Below W.heap.size W W' := Same.below hk (Nat.le_refl _) (fun _ h => h.elim)
  refine ⟨_, rfl, _, _, _, [], p2, [], hW', trodAll_cons_mk (shut_bool Try.underlying4 _) trodAll_mk0, ?_, rfl, hB.frame _, fun h => by cases h⟩
  show DataW.TrodAll enc Try.prog W' 0 _ true Try.f4.params.toList [.int .i64 a0, .int .i64 a1, .slice s2 l2.length c2] [.lit (.int .i64 a0), .lit (.int .i64 a1), d2] _
  rw [Try.params4]
  have hA2 := trodAll_cons_mk (shut_int Try.underlying3 w0) (trodAll_cons_mk (shut_int Try.underlying3 w1) (trodAll_cons_mk (Below.trod Try.laid5 (by kernel_rfl) (of_decide_eq_true (by kernel_rfl)) k2 hB hlt2) trodAll_mk0))
  simpa only [List.append_nil, List.nil_append] using hA2

theorem proved : Rows.MachineEmitsSaid :=
  OpenClaim.holds_of_wide 4 Try.f4 rfl rfl rfl rfl rfl rfl rfl ⟨rfl, rfl, rfl, rfl, rfl⟩ rfl rfl rfl rfl rfl (by kernel_rfl) Try.func4 (by kernel_rfl)
    (of_decide_eq_true (by kernel_rfl)) (by unfold Func.isWrapper; first | (rw [if_pos (by decide +kernel)]; kernel_rfl) | (rw [if_neg (by decide +kernel)]; exact ⟨rfl, rfl⟩))
    (fun os started H enc _ => lifted os started H enc)
#print axioms proved
end Go.Proofs.Ytmghmacgljihcaa.machineEmits
