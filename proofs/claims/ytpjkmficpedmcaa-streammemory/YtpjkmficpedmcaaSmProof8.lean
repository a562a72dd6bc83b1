/- What is proved: the given statement on StreamMemory: for every argument the law returns true, and its arguments read as before; no condition. -/
import Derived.Test.YtpjkmficpedmcaaSMmL
import Derived.Test.YtpjkmficpedmcaaSOpenA
namespace Go.Proofs.Ytpjkmficpedmcaa.streamMemory
open Go.ChangeShapes Go.WideShapes Go.ChangeAt Go.RowKit

theorem own : ownKnob Try.prog.godebug = none := by kernel_rfl

theorem walk (oa : Option Addr) (c : Nat) (l : List Int) (w : World) (h : ArgB w oa c l) :
    Calls Try.prog 3 #[.slice oa l.length c] w fun e w' => e = .returned (.bool true) ∧ Kept w w' := by
  by_cases hn : l.length < 1 ∨ 64 < l.length
  · exact mem8_no oa c l.length w hn
  · obtain ⟨b, off, rfl, -, -⟩ := h.data 0 _ (List.getElem?_eq_getElem (by omega))
    exact mem8_yes b off c l w h.data (by omega) (by omega) h.cap

set_option maxRecDepth 100000 in
theorem lifted (os : Os) (started : os.Started) (H : Type) (enc : TypeId × Value → H) :
    ReturnsInHanded {} Try.checked os 3 .any (Rows.streamMemorySpec.pre6 enc Try.prog Try.f3 Rows.streamMemoryRow.domain false) (Rows.streamMemorySpec.post enc Try.prog Try.f3 false true false false) := by
  refine returnsInHanded_of_change_sized (C := Try.checked) own started (by kernel_rfl) Try.func3
    (ChangeSpec.witness6 (enc := enc) (C := Try.checked) false ⟨#[], #[.slice none 0 0], []⟩ 8 (by kernel_rfl) (by kernel_rfl) (by kernel_rfl) (by kernel_rfl)) ?_
  intro W base args ds gs before hval0 hW hcnd hsz _
  have hval : ∀ (j : Nat) t v, Try.f3.params[j]? = some t → args[j]? = some v → Value.okWide Try.prog W .any base t v := hval0
  have hW' := hW
  obtain ⟨p, q, hA0, hV, rfl, hfz, hnd⟩ := hW
  have hA : DataW.TrodAll enc Try.prog W 0 (fun _ => true) true Try.f3.params.toList args.toList ds p := hA0
  have hP : Try.f3.params.toList = [22] := by kernel_rfl
  rw [Try.params3] at hA hval
  obtain ⟨v0, vs0, d0, ds0, p0, q0, hargs0, rfl, rfl, h0, r0⟩ := trodAll_cons hA
  obtain ⟨rfl, rfl, rfl⟩ := trodAll_nil r0
  obtain rfl : args = #[v0] := by cases args; simp_all
  obtain ⟨rfl, rfl⟩ := trodVars_none hV
  rw [hP, List.append_nil] at hsz
  have hw0 : ∀ n ∈ d0.weights Try.prog 22, n ≤ reachBytes := fun n hn => by
    have := List.all_eq_true.1 hsz n (by
      simp only [List.cons_append, DataW.weightsEach, List.mem_append]
      exact .inl hn)
    simpa using this
  obtain ⟨s0, n0, c0, rfl⟩ := okWide_slice Try.underlying22 (hval 0 22 v0 rfl rfl)
  clear hA0 hval0
  simp only [List.append_nil] at hW'
  have hlt0 : ∀ x ∈ p0, x.block < W.heap.size := fun x hx => by simpa using hW'.lt x (by simp [hx])
  have k0 := h0
  obtain ⟨fuel0, g0⟩ := h0
  have e0 : DataW.trod enc Try.prog W 0 (fun _ => true) true fuel0 22 [.slice s0 n0 c0] = some (d0, p0) := by simpa [Value.cells] using g0
  obtain ⟨l0, rfl, f0⟩ := open_argB e0
  have f0 := f0 hw0
  refine (walk s0 c0 l0 W f0 ).mono fun e W' ⟨he, hk⟩ => ?_
  subst he
  have hB : Below W.heap.size W W' := Same.below hk (Nat.le_refl _) (fun _ h => h.elim)
  refine ⟨_, rfl, _, _, _, [], p0, [], hW', trodAll_cons_mk (shut_bool Try.underlying4 _) trodAll_mk0, ?_, rfl, hB.frame _, fun h => by cases h⟩
  show DataW.TrodAll enc Try.prog W' 0 _ true Try.f3.params.toList [.slice s0 l0.length c0] [d0] _
  rw [Try.params3]
  have hA2 := trodAll_cons_mk (Below.trod Try.laid5 (by kernel_rfl) (of_decide_eq_true (by kernel_rfl)) k0 hB hlt0) trodAll_mk0
  simpa only [List.append_nil, List.nil_append] using hA2

theorem proved : Rows.StreamMemorySaid :=
  OpenClaim.holds_of_wide 3 Try.f3 rfl rfl rfl rfl rfl rfl rfl ⟨rfl, rfl, rfl, rfl, rfl⟩ rfl rfl rfl rfl rfl (by kernel_rfl) Try.func3 (by kernel_rfl)
    (of_decide_eq_true (by kernel_rfl)) (by unfold Func.isWrapper; first | (rw [if_pos (by decide +kernel)]; kernel_rfl) | (rw [if_neg (by decide +kernel)]; exact ⟨rfl, rfl⟩))
    (fun os started H enc _ => lifted os started H enc)
#print axioms proved
end Go.Proofs.Ytpjkmficpedmcaa.streamMemory
