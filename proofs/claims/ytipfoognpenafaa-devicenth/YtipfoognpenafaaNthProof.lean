/- What is proved: the given statement on DeviceNth: for every block, number and list the law returns true, and its arguments read as before; no condition. -/
import Derived.Test.YtipfoognpenafaaDNth
import Derived.ProofKit
import Derived.OpenShut
import Derived.Deep.Slices
import Derived.Deep.SlicePairs
import Derived.SizedLaws
namespace Go.Proofs.Ytipfoognpenafaa.deviceNth
open Go.ChangeShapes Go.WideShapes Go.ChangeAt Go.RowKit

theorem own : ownKnob Try.prog.godebug = none := by kernel_rfl
theorem bytesI : Try.prog.bytesOf 3 = 8 := by kernel_rfl
theorem cellsI : Try.prog.cellsOf 3 = 1 := by kernel_rfl

theorem open_ints {H : Type} {enc : TypeId × Value → H} {W : World} {fuel : Nat} {sa : Option Addr} {len cap : Nat} {d : DataW H} {p : List MemPlace}
    (h : DataW.trod enc Try.prog W 0 (fun _ => true) true fuel 58 [.slice sa len cap] = some (d, p)) : ∃ l : List Int, len = l.length ∧ IntsAt W sa l ∧ ((∀ n ∈ d.weights Try.prog 58, n ≤ reachBytes) → l.length * 8 ≤ reachBytes) := by
  rcases Go.Deep.open_slice1 Try.underlying58 cellsI h with ⟨hcs, hd⟩ | ⟨a, len', cap', m, n, V, D, Pl, hcs, _, hl, hm, hmm, hd, hx⟩
  · simp only [List.cons.injEq, Value.slice.injEq, and_true] at hcs
    obtain ⟨rfl, rfl, rfl⟩ := hcs
    exact ⟨[], rfl, fun i x hx => by simp at hx, fun _ => by simp⟩
  · simp only [List.cons.injEq, Value.slice.injEq, and_true] at hcs
    obtain ⟨rfl, rfl, rfl⟩ := hcs
    simp only [if_true] at hmm
    simp only [Prod.mk.injEq] at hd
    have each : ∀ i, i < len → ∃ x : Int, W.cell? (a.add i) = some (.int .i64 x) := by
      intro i hi
      obtain ⟨h1, h2⟩ := hx i (by omega)
      obtain ⟨x, e, _⟩ := DataW.trod_int Try.underlying3 h2
      simp only [List.cons.injEq, and_true] at e
      rw [e] at h1
      exact ⟨x, h1⟩
    obtain ⟨q, hq⟩ := Go.Deep.choose_lt each
    have e1 : ((List.range len).map q).length = len := by simp
    refine ⟨(List.range len).map q, e1.symm, fun i x hi => ?_, fun hw => ?_⟩
    · have hi' := (List.getElem?_eq_some_iff.1 hi).1
      rw [e1] at hi'
      rw [List.getElem?_map, List.getElem?_range hi'] at hi
      simp only [Option.map_some, Option.some.injEq] at hi
      subst hi
      have h0 := hq i hi'
      have h00 := hq 0 (by omega)
      obtain ⟨b, off, spot⟩ := a
      have hspot : spot = none := by simpa [Addr.add] using World.cell?_spot h00
      subst hspot
      rw [Go.WideShapes.add_plain] at h0
      exact ⟨b, off, rfl, World.block_lt_of_cell? W _ h0, h0⟩
    · rw [e1]
      have := hw ((len + (m - len)) * 8) (by
        rw [hd.1]
        simp only [DataW.weights, Try.underlying58, bytesI, List.length_map, List.length_range]
        exact List.mem_cons_self)
      omega

theorem walk (at' nth : Int) (oa : Option Addr) (oc : Nat) (lo : List Int) (w : World) (ho : IntsAt w oa lo) (hlen : lo.length ≤ 140737488355328) :
    Calls Try.prog 8 #[.int .i64 at', .int .i64 nth, .slice oa lo.length oc] w fun e w' => e = .returned (.bool true) ∧ Kept w w' := by
  by_cases h : at' < 0 ∨ 3 < at' ∨ nth < 1 ∨ 50 < nth
  · exact nth_trivial at' nth _ w h
  · obtain ⟨a, rfl⟩ := Int.eq_ofNat_of_zero_le (show 0 ≤ at' by omega)
    obtain ⟨b, rfl⟩ := Int.eq_ofNat_of_zero_le (show 0 ≤ nth by omega)
    exact nth_main a b oa oc lo w ho hlen (by omega) (by omega) (by omega)

set_option maxRecDepth 100000 in
theorem lifted (os : Os) (started : os.Started) (H : Type) (enc : TypeId × Value → H) :
    ReturnsInHanded {} Try.checked os 8 .any (Rows.deviceNthSpec.pre6 enc Try.prog Try.f8 Rows.deviceNthRow.domain false) (Rows.deviceNthSpec.post enc Try.prog Try.f8 false true false false) := by
  refine returnsInHanded_of_change_sized (C := Try.checked) own started (by kernel_rfl) Try.func8
    (ChangeSpec.witness6 (enc := enc) (C := Try.checked) false ⟨#[], #[.int .i64 0, .int .i64 0, .slice none 0 0], []⟩ 8 (by kernel_rfl) (by kernel_rfl) (by kernel_rfl) (by kernel_rfl)) ?_
  intro W base args ds gs before hval0 hW hcnd hsz _
  have hval : ∀ (j : Nat) t v, Try.f8.params[j]? = some t → args[j]? = some v → Value.okWide Try.prog W .any base t v := hval0
  have hW' := hW
  obtain ⟨p, q, hA0, hV, rfl, hfz, hnd⟩ := hW
  have hA : DataW.TrodAll enc Try.prog W 0 (fun _ => true) true Try.f8.params.toList args.toList ds p := hA0
  have hP : Try.f8.params.toList = [3, 3, 58] := by kernel_rfl
  rw [Try.params8] at hA hval
  obtain ⟨v0, vs0, d0, ds0, p0, q0, hargs, rfl, rfl, h0, r0⟩ := trodAll_cons hA
  obtain ⟨v1, vs1, d1, ds1, p1, q1, hargs1, rfl, rfl, h1, r1⟩ := trodAll_cons r0
  obtain ⟨v2, vs2, d2, ds2, p2, q2, hargs2, rfl, rfl, h2, r2⟩ := trodAll_cons r1
  obtain ⟨rfl, rfl, rfl⟩ := trodAll_nil r2
  obtain rfl : args = #[v0, v1, v2] := by cases args; simp_all
  obtain ⟨rfl, rfl⟩ := trodVars_none hV
  have hw : ∀ n ∈ d2.weights Try.prog 58, n ≤ reachBytes := fun n hn => by
    rw [hP, List.append_nil] at hsz
    have := List.all_eq_true.1 hsz n (by
      simp only [List.cons_append, DataW.weightsEach, List.mem_append]
      exact .inr (.inr (.inl hn)))
    simpa using this
  obtain ⟨a0, rfl, rfl, rfl, w0⟩ := open_int Try.underlying3 (hval 0 3 v0 rfl rfl) h0
  obtain ⟨a1, rfl, rfl, rfl, w1⟩ := open_int Try.underlying3 (hval 1 3 v1 rfl rfl) h1
  obtain ⟨oa, no, oc, rfl⟩ := okWide_slice Try.underlying58 (hval 2 58 v2 rfl rfl)
  clear hA0 hval0
  simp only [List.append_nil, List.nil_append] at hW'
  have hlt : ∀ x ∈ p2, x.block < W.heap.size := fun x hx => by simpa using hW'.lt x hx
  have h2k := h2
  obtain ⟨fuel2, h2'⟩ := h2
  have g2 : DataW.trod enc Try.prog W 0 (fun _ => true) true fuel2 58 [.slice oa no oc] = some (d2, p2) := by simpa [Value.cells] using h2'
  obtain ⟨lo, rfl, y1, y3⟩ := open_ints g2
  have z4 := y3 hw
  have hreach : reachBytes ≤ 140737488355328 := by decide
  refine (walk a0 a1 oa oc lo W y1 (by omega)).mono fun e W' ⟨he, hk⟩ => ?_
  subst he
  have hB : Below W.heap.size W W' := Same.below hk (Nat.le_refl _) (fun _ h => h.elim)
  refine ⟨_, rfl, _, _, _, [], p2, [], hW', trodAll_cons_mk (shut_bool Try.underlying4 _) trodAll_mk0, ?_, rfl, hB.frame _, fun h => by cases h⟩
  show DataW.TrodAll enc Try.prog W' 0 _ true Try.f8.params.toList [.int .i64 a0, .int .i64 a1, .slice oa lo.length oc] [.lit (.int .i64 a0), .lit (.int .i64 a1), d2] p2
  rw [Try.params8]
  have hA2 := trodAll_cons_mk (Below.trod Try.laid3 (by kernel_rfl) (of_decide_eq_true (by kernel_rfl)) h2k hB hlt) trodAll_mk0
  rw [List.append_nil] at hA2
  exact trodAll_cons_mk (shut_int Try.underlying3 w0) (trodAll_cons_mk (shut_int Try.underlying3 w1) hA2)

theorem proved : Rows.DeviceNthSaid :=
  OpenClaim.holds_of_wide 8 Try.f8 rfl rfl rfl rfl rfl rfl rfl ⟨rfl, rfl, rfl, rfl, rfl⟩ rfl rfl rfl rfl rfl (by kernel_rfl) Try.func8 (by kernel_rfl)
    (of_decide_eq_true (by kernel_rfl)) (by unfold Func.isWrapper; first | (rw [if_pos (by decide +kernel)]; kernel_rfl) | (rw [if_neg (by decide +kernel)]; exact ⟨rfl, rfl⟩))
    (fun os started H enc _ => lifted os started H enc)
#print axioms proved
end Go.Proofs.Ytipfoognpenafaa.deviceNth
