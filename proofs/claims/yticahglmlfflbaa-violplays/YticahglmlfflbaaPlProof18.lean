/- What is proved: the given statement on ViolPlays: for every argument the law returns true, and its arguments read as before; no condition. -/
import Derived.Test.YticahglmlfflbaaVPlL
namespace Go.Proofs.Yticahglmlfflbaa.violPlays
open Go.ChangeShapes Go.WideShapes Go.ChangeAt Go.RowKit

theorem own : ownKnob Try.prog.godebug = none := by kernel_rfl

theorem walk (limit : Int) (a : Option Addr) (cap : Nat) (l : List OpV) (w : World) (h : At ov1 13 w a l ∧ l.length ≤ 1099511627776) (_ : (Lit.int .i64 limit).wf = true) :
    Calls Try.prog 3 #[.int .i64 limit, .slice a l.length cap] w fun e w' => e = .returned (.bool true) ∧ Kept w w' := by
  by_cases hl : limit < 0 ∨ 10000 < limit
  · exact plays_out limit hl _ w
  · obtain ⟨n, rfl⟩ : ∃ n : Nat, limit = (n : Int) := ⟨limit.toNat, by omega⟩
    exact plays_law n (by omega) w a cap l h.1 h.2

set_option maxRecDepth 100000 in
theorem lifted (os : Os) (started : os.Started) (H : Type) (enc : TypeId × Value → H) :
    ReturnsInHanded {} Try.checked os 3 .any (Rows.violPlaysSpec.pre6 enc Try.prog Try.f3 Rows.violPlaysRow.domain false) (Rows.violPlaysSpec.post enc Try.prog Try.f3 false true false false) := by
  refine returnsInHanded_of_change_sized (C := Try.checked) own started (by kernel_rfl) Try.func3
    (ChangeSpec.witness6 (enc := enc) (C := Try.checked) false ⟨#[], #[.int .i64 0, .slice none 0 0], []⟩ 8 (by kernel_rfl) (by kernel_rfl) (by kernel_rfl) (by kernel_rfl)) ?_
  intro W base args ds gs before hval0 hW hcnd hsz _
  have hval : ∀ (j : Nat) t v, Try.f3.params[j]? = some t → args[j]? = some v → Value.okWide Try.prog W .any base t v := hval0
  have hW' := hW
  obtain ⟨p, q, hA0, hV, rfl, hfz, hnd⟩ := hW
  have hA : DataW.TrodAll enc Try.prog W 0 (fun _ => true) true Try.f3.params.toList args.toList ds p := hA0
  have hP : Try.f3.params.toList = [3, 22] := by kernel_rfl
  rw [Try.params3] at hA hval
  obtain ⟨v0, vs0, d0, ds0, p0, q0, hargs0, rfl, rfl, h0, r0⟩ := trodAll_cons hA
  obtain ⟨v1, vs1, d1, ds1, p1, q1, hargs1, rfl, rfl, h1, r1⟩ := trodAll_cons r0
  obtain ⟨rfl, rfl, rfl⟩ := trodAll_nil r1
  obtain rfl : args = #[v0, v1] := by cases args; simp_all
  obtain ⟨rfl, rfl⟩ := trodVars_none hV
  rw [hP, List.append_nil] at hsz
  have hw1 : ∀ n ∈ d1.weights Try.prog 22, n ≤ reachBytes := fun n hn => by
    have := List.all_eq_true.1 hsz n (by
      simp only [List.cons_append, DataW.weightsEach, List.mem_append]
      exact .inr (.inl hn))
    simpa using this
  obtain ⟨a0, rfl, rfl, rfl, w0⟩ := open_int Try.underlying3 (hval 0 3 v0 rfl rfl) h0
  obtain ⟨s1, n1, c1, rfl⟩ := okWide_slice Try.underlying22 (hval 1 22 v1 rfl rfl)
  clear hA0 hval0
  simp only [List.append_nil] at hW'
  have hlt1 : ∀ x ∈ p1, x.block < W.heap.size := fun x hx => by simpa using hW'.lt x (by simp [hx])
  have k1 := h1
  obtain ⟨fuel1, g1⟩ := h1
  have e1 : DataW.trod enc Try.prog W 0 (fun _ => true) true fuel1 22 [.slice s1 n1 c1] = some (d1, p1) := by simpa [Value.cells] using g1
  obtain ⟨l1, rfl, f1⟩ := open_ops e1
  have f1 := f1 hw1
  refine (walk a0 s1 c1 l1 W f1 w0).mono fun e W' ⟨he, hk⟩ => ?_
  subst he
  have hB : Below W.heap.size W W' := Same.below hk (Nat.le_refl _) (fun _ h => h.elim)
  refine ⟨_, rfl, _, _, _, [], p1, [], hW', trodAll_cons_mk (shut_bool Try.underlying4 _) trodAll_mk0, ?_, rfl, hB.frame _, fun h => by cases h⟩
  show DataW.TrodAll enc Try.prog W' 0 _ true Try.f3.params.toList [.int .i64 a0, .slice s1 l1.length c1] [.lit (.int .i64 a0), d1] _
  rw [Try.params3]
  have hA2 := trodAll_cons_mk (shut_int Try.underlying3 w0) (trodAll_cons_mk (Below.trod Try.laid5 (by kernel_rfl) (of_decide_eq_true (by kernel_rfl)) k1 hB hlt1) trodAll_mk0)
  simpa only [List.append_nil, List.nil_append] using hA2

theorem proved : Rows.ViolPlaysSaid :=
  OpenClaim.holds_of_wide 3 Try.f3 rfl rfl rfl rfl rfl rfl rfl ⟨rfl, rfl, rfl, rfl, rfl⟩ rfl rfl rfl rfl rfl (by kernel_rfl) Try.func3 (by kernel_rfl)
    (of_decide_eq_true (by kernel_rfl)) (by unfold Func.isWrapper; first | (rw [if_pos (by decide +kernel)]; kernel_rfl) | (rw [if_neg (by decide +kernel)]; exact ⟨rfl, rfl⟩))
    (fun os started H enc _ => lifted os started H enc)
#print axioms proved
end Go.Proofs.Yticahglmlfflbaa.violPlays
