/- What is proved: the given statement on ChainPrunes: for every argument the law returns true, and its arguments read as before; no condition. -/
import Derived.Test.YtnjpbagfbklofaaCPruL
namespace Go.Proofs.Ytnjpbagfbklofaa.chainPrunes
open Go.ChangeShapes Go.WideShapes Go.ChangeAt Go.RowKit

theorem own : ownKnob Try.prog.godebug = none := by kernel_rfl

theorem walk (ad : Option Addr) (cap : Nat) (s : List OpC) (t : Int) (ti : Option Addr) (tc : Nat) (ts : List Int) (md : Option Addr) (mc : Nat) (ms : List OpC) (w : World) (h : OpsAt w ad s ∧ Small s ∧ s.length ≤ 1954687338268) (ht : NumsAt w ti ts ∧ ts.length ≤ 17592186044416) (hm : OpsAt w md ms ∧ Small ms ∧ ms.length ≤ 1954687338268) (_ : (Lit.int .i64 t).wf = true) :
    Calls Try.prog 5 #[.slice ad s.length cap, .int .i64 t, .slice ti ts.length tc, .slice md ms.length mc] w fun e w' => e = .returned (.bool true) ∧ Kept w w' := prunes_law w ad cap s t ti tc ts md mc ms h.1 h.2.1 h.2.2 ht.1 ht.2 hm.1 hm.2.1 hm.2.2

set_option maxRecDepth 100000 in
theorem lifted (os : Os) (started : os.Started) (H : Type) (enc : TypeId × Value → H) :
    ReturnsInHanded {} Try.checked os 5 .any (Rows.chainPrunesSpec.pre6 enc Try.prog Try.f5 Rows.chainPrunesRow.domain false) (Rows.chainPrunesSpec.post enc Try.prog Try.f5 false true false false) := by
  refine returnsInHanded_of_change_sized (C := Try.checked) own started (by kernel_rfl) Try.func5
    (ChangeSpec.witness6 (enc := enc) (C := Try.checked) false ⟨#[], #[.slice none 0 0, .int .i64 0, .slice none 0 0, .slice none 0 0], []⟩ 8 (by kernel_rfl) (by kernel_rfl) (by kernel_rfl) (by kernel_rfl)) ?_
  intro W base args ds gs before hval0 hW hcnd hsz _
  have hval : ∀ (j : Nat) t v, Try.f5.params[j]? = some t → args[j]? = some v → Value.okWide Try.prog W .any base t v := hval0
  have hW' := hW
  obtain ⟨p, q, hA0, hV, rfl, hfz, hnd⟩ := hW
  have hA : DataW.TrodAll enc Try.prog W 0 (fun _ => true) true Try.f5.params.toList args.toList ds p := hA0
  have hP : Try.f5.params.toList = [22, 3, 44, 22] := by kernel_rfl
  rw [Try.params5] at hA hval
  obtain ⟨v0, vs0, d0, ds0, p0, q0, hargs0, rfl, rfl, h0, r0⟩ := trodAll_cons hA
  obtain ⟨v1, vs1, d1, ds1, p1, q1, hargs1, rfl, rfl, h1, r1⟩ := trodAll_cons r0
  obtain ⟨v2, vs2, d2, ds2, p2, q2, hargs2, rfl, rfl, h2, r2⟩ := trodAll_cons r1
  obtain ⟨v3, vs3, d3, ds3, p3, q3, hargs3, rfl, rfl, h3, r3⟩ := trodAll_cons r2
  obtain ⟨rfl, rfl, rfl⟩ := trodAll_nil r3
  obtain rfl : args = #[v0, v1, v2, v3] := by cases args; simp_all
  obtain ⟨rfl, rfl⟩ := trodVars_none hV
  rw [hP, List.append_nil] at hsz
  have hw0 : ∀ n ∈ d0.weights Try.prog 22, n ≤ reachBytes := fun n hn => by
    have := List.all_eq_true.1 hsz n (by
      simp only [List.cons_append, DataW.weightsEach, List.mem_append]
      exact .inl hn)
    simpa using this
  have hw2 : ∀ n ∈ d2.weights Try.prog 44, n ≤ reachBytes := fun n hn => by
    have := List.all_eq_true.1 hsz n (by
      simp only [List.cons_append, DataW.weightsEach, List.mem_append]
      exact .inr (.inr (.inl hn)))
    simpa using this
  have hw3 : ∀ n ∈ d3.weights Try.prog 22, n ≤ reachBytes := fun n hn => by
    have := List.all_eq_true.1 hsz n (by
      simp only [List.cons_append, DataW.weightsEach, List.mem_append]
      exact .inr (.inr (.inr (.inl hn))))
    simpa using this
  obtain ⟨s0, n0, c0, rfl⟩ := okWide_slice Try.underlying22 (hval 0 22 v0 rfl rfl)
  obtain ⟨a1, rfl, rfl, rfl, w1⟩ := open_int Try.underlying3 (hval 1 3 v1 rfl rfl) h1
  obtain ⟨s2, n2, c2, rfl⟩ := okWide_slice Try.underlying44 (hval 2 44 v2 rfl rfl)
  obtain ⟨s3, n3, c3, rfl⟩ := okWide_slice Try.underlying22 (hval 3 22 v3 rfl rfl)
  clear hA0 hval0
  simp only [List.append_nil] at hW'
  have hlt0 : ∀ x ∈ p0, x.block < W.heap.size := fun x hx => by simpa using hW'.lt x (by simp [hx])
  have k0 := h0
  obtain ⟨fuel0, g0⟩ := h0
  have e0 : DataW.trod enc Try.prog W 0 (fun _ => true) true fuel0 22 [.slice s0 n0 c0] = some (d0, p0) := by simpa [Value.cells] using g0
  obtain ⟨l0, rfl, f0⟩ := open_ops e0
  have f0 := f0 hw0
  have hlt2 : ∀ x ∈ p2, x.block < W.heap.size := fun x hx => by simpa using hW'.lt x (by simp [hx])
  have k2 := h2
  obtain ⟨fuel2, g2⟩ := h2
  have e2 : DataW.trod enc Try.prog W 0 (fun _ => true) true fuel2 44 [.slice s2 n2 c2] = some (d2, p2) := by simpa [Value.cells] using g2
  obtain ⟨l2, rfl, f2⟩ := open_argI e2
  have f2 := f2 hw2
  have hlt3 : ∀ x ∈ p3, x.block < W.heap.size := fun x hx => by simpa using hW'.lt x (by simp [hx])
  have k3 := h3
  obtain ⟨fuel3, g3⟩ := h3
  have e3 : DataW.trod enc Try.prog W 0 (fun _ => true) true fuel3 22 [.slice s3 n3 c3] = some (d3, p3) := by simpa [Value.cells] using g3
  obtain ⟨l3, rfl, f3⟩ := open_ops e3
  have f3 := f3 hw3
  refine (walk s0 c0 l0 a1 s2 c2 l2 s3 c3 l3 W f0 f2 f3 w1).mono fun e W' ⟨he, hk⟩ => ?_
  subst he
  have hB : Below W.heap.size W W' := Same.below hk (Nat.le_refl _) (fun _ h => h.elim)
  refine ⟨_, rfl, _, _, _, [], p0 ++ (p2 ++ (p3)), [], hW', trodAll_cons_mk (shut_bool Try.underlying4 _) trodAll_mk0, ?_, rfl, hB.frame _, fun h => by cases h⟩
  show DataW.TrodAll enc Try.prog W' 0 _ true Try.f5.params.toList [.slice s0 l0.length c0, .int .i64 a1, .slice s2 l2.length c2, .slice s3 l3.length c3] [d0, .lit (.int .i64 a1), d2, d3] _
  rw [Try.params5]
  have hA2 := trodAll_cons_mk (Below.trod Try.laid5 (by kernel_rfl) (of_decide_eq_true (by kernel_rfl)) k0 hB hlt0) (trodAll_cons_mk (shut_int Try.underlying3 w1) (trodAll_cons_mk (Below.trod Try.laid5 (by kernel_rfl) (of_decide_eq_true (by kernel_rfl)) k2 hB hlt2) (trodAll_cons_mk (Below.trod Try.laid5 (by kernel_rfl) (of_decide_eq_true (by kernel_rfl)) k3 hB hlt3) trodAll_mk0)))
  simpa only [List.append_nil, List.nil_append] using hA2

theorem proved : Rows.ChainPrunesSaid :=
  OpenClaim.holds_of_wide 5 Try.f5 rfl rfl rfl rfl rfl rfl rfl ⟨rfl, rfl, rfl, rfl, rfl⟩ rfl rfl rfl rfl rfl (by kernel_rfl) Try.func5 (by kernel_rfl)
    (of_decide_eq_true (by kernel_rfl)) (by unfold Func.isWrapper; first | (rw [if_pos (by decide +kernel)]; kernel_rfl) | (rw [if_neg (by decide +kernel)]; exact ⟨rfl, rfl⟩))
    (fun os started H enc _ => lifted os started H enc)
#print axioms proved
end Go.Proofs.Ytnjpbagfbklofaa.chainPrunes
