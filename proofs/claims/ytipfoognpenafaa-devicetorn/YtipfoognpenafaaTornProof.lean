/- What is proved: the given statement on DeviceTorn: for every setup, number of bytes kept and script the law returns true, and its arguments read as before; no condition. -/
import Derived.Test.YtipfoognpenafaaDTornA
import Derived.Test.YtipfoognpenafaaDTornB
import Derived.Test.YtipfoognpenafaaDSteps
namespace Go.Proofs.Ytipfoognpenafaa.deviceTorn
open Go.ChangeShapes Go.WideShapes Go.ChangeAt Go.RowKit

theorem own : ownKnob Try.prog.godebug = none := by kernel_rfl

theorem walk (B S keep : Int) (ia ga fa sa : Option Addr) (ic gc nf fc sc : Nat) (l lg : List Int) (ls : List St) (w : World) (hl : BytesAt w ia l) (hg : BytesAt w ga lg) (hs : StepsAt w sa ls) (hnl : ia = none → l.length = 0 ∧ ic = 0) (hng : ga = none → lg.length = 0 ∧ gc = 0) (b3 : ls.length ≤ 140737488355328) :
    Calls Try.prog 6 #[setupV B S ia ga fa l.length ic lg.length gc nf fc, .int .i64 keep, .slice sa ls.length sc] w fun e w' => e = .returned (.bool true) ∧ Kept w w' := by
  by_cases h : B < 16 ∨ 1024 < B ∨ S < 1 ∨ 4096 < S ∨ 4194304 < l.length
  · exact torn_trivA B S keep ia ga fa l.length ic lg.length gc nf fc _ w h
  · obtain ⟨b, rfl⟩ := Int.eq_ofNat_of_zero_le (show 0 ≤ B by omega)
    obtain ⟨s, rfl⟩ := Int.eq_ofNat_of_zero_le (show 0 ≤ S by omega)
    by_cases h2 : b * s < lg.length ∨ keep < 0 ∨ (b : Int) < keep
    · exact torn_trivB b s keep ia ga fa l.length ic lg.length gc nf fc _ w (by omega) (by omega) (by omega) (by omega) (by omega) h2
    · obtain ⟨k, rfl⟩ := Int.eq_ofNat_of_zero_le (show 0 ≤ keep by omega)
      exact torn_main b s k ia ga fa sa ic gc nf fc sc l lg ls w hl hg hs hnl hng b3 (by omega) (by omega) (by omega) (by omega) (by omega) (by omega) (by omega)

set_option maxRecDepth 100000 in
theorem lifted (os : Os) (started : os.Started) (H : Type) (enc : TypeId × Value → H) :
    ReturnsInHanded {} Try.checked os 6 .any (Rows.deviceTornSpec.pre6 enc Try.prog Try.f6 Rows.deviceTornRow.domain false) (Rows.deviceTornSpec.post enc Try.prog Try.f6 false true false false) := by
  refine returnsInHanded_of_change_sized (C := Try.checked) own started (by kernel_rfl) Try.func6
    (ChangeSpec.witness6 (enc := enc) (C := Try.checked) false ⟨#[], #[.agg #[.int .i64 0, .int .i64 0, .slice none 0 0, .slice none 0 0, .slice none 0 0], .int .i64 0, .slice none 0 0], []⟩ 8 (by kernel_rfl) (by kernel_rfl) (by kernel_rfl) (by kernel_rfl)) ?_
  intro W base args ds gs before hval0 hW hcnd hsz _
  have hval : ∀ (j : Nat) t v, Try.f6.params[j]? = some t → args[j]? = some v → Value.okWide Try.prog W .any base t v := hval0
  have hW' := hW
  obtain ⟨p, q, hA0, hV, rfl, hfz, hnd⟩ := hW
  have hA : DataW.TrodAll enc Try.prog W 0 (fun _ => true) true Try.f6.params.toList args.toList ds p := hA0
  have hP : Try.f6.params.toList = [25, 3, 26] := by kernel_rfl
  rw [Try.params6] at hA hval
  obtain ⟨v0, vs0, d0, ds0, p0, q0, hargs, rfl, rfl, h0, r0⟩ := trodAll_cons hA
  obtain ⟨vk, vsk, dk, dsk, pk, qk, hargsk, rfl, rfl, hk0, rk⟩ := trodAll_cons r0
  obtain ⟨v1, vs1, d1, ds1, p1, q1, hargs1, rfl, rfl, h1, r1⟩ := trodAll_cons rk
  obtain ⟨rfl, rfl, rfl⟩ := trodAll_nil r1
  obtain rfl : args = #[v0, vk, v1] := by cases args; simp_all
  obtain ⟨rfl, rfl⟩ := trodVars_none hV
  have hw : ∀ n, n ∈ d0.weights Try.prog 25 ∨ n ∈ d1.weights Try.prog 26 → n ≤ reachBytes := fun n hn => by
    rw [hP, List.append_nil] at hsz
    have := List.all_eq_true.1 hsz n (by
      simp only [List.cons_append, DataW.weightsEach, List.mem_append]
      exact hn.imp id (fun h => .inr (.inl h)))
    simpa using this
  obtain ⟨cs, rfl, hcs⟩ := okWide_struct Try.underlying25 (hval 0 25 v0 rfl rfl)
  obtain ⟨ak, rfl, rfl, rfl, wk⟩ := open_int Try.underlying3 (hval 1 3 vk rfl rfl) hk0
  obtain ⟨sa, nn, sc, rfl⟩ := okWide_slice Try.underlying26 (hval 2 26 v1 rfl rfl)
  clear hA0 hval0
  simp only [List.append_nil, List.nil_append] at hW'
  have hlt : ∀ x ∈ p0 ++ p1, x.block < W.heap.size := fun x hx => hW'.lt x (by simpa using hx)
  have h0k := h0
  have h1k := h1
  obtain ⟨fuel0, h0'⟩ := h0
  obtain ⟨fuel1, h1'⟩ := h1
  have g0 : DataW.trod enc Try.prog W 0 (fun _ => true) true fuel0 25 cs.toList = some (d0, p0) := by simpa [Value.cells] using h0'
  have g1 : DataW.trod enc Try.prog W 0 (fun _ => true) true fuel1 26 [.slice sa nn sc] = some (d1, p1) := by simpa [Value.cells] using h1'
  obtain ⟨B, S, ia, ga, fa, ic, gc, fc, l, lg, F, hv, iB, iS, e1, e2, e3, e4, e5, e6, e7⟩ := open_setup hcs g0
  obtain ⟨ls, rfl, y1⟩ := open_steps g1
  obtain ⟨z1, z2, z3⟩ := e7 fun n hn => hw n (.inl hn)
  obtain ⟨y2, y3⟩ := y1 fun n hn => hw n (.inr hn)
  rw [hv] at hW' h0k ⊢
  have hreach : reachBytes ≤ 140737488355328 := by decide
  refine (walk B S ak ia ga fa sa ic gc F.length fc sc l lg ls W e1 e3 y2 e2 e4 (by omega)).mono fun e W' ⟨he, hk⟩ => ?_
  subst he
  have hB : Below W.heap.size W W' := Same.below hk (Nat.le_refl _) (fun _ h => h.elim)
  refine ⟨_, rfl, _, _, _, [], p0 ++ p1, [], hW', trodAll_cons_mk (shut_bool Try.underlying4 _) trodAll_mk0, ?_, rfl, hB.frame _, fun h => by cases h⟩
  show DataW.TrodAll enc Try.prog W' 0 _ true Try.f6.params.toList [setupV B S ia ga fa l.length ic lg.length gc F.length fc, .int .i64 ak, .slice sa ls.length sc] [d0, .lit (.int .i64 ak), d1] (p0 ++ p1)
  rw [Try.params6]
  have hA2 := trodAll_cons_mk (Below.trod Try.laid3 (by kernel_rfl) (of_decide_eq_true (by kernel_rfl)) h1k hB (fun x hx => hlt x (by simp [hx]))) trodAll_mk0
  rw [List.append_nil] at hA2
  have hA1 := trodAll_cons_mk (shut_int Try.underlying3 wk) hA2
  rw [List.nil_append] at hA1
  exact trodAll_cons_mk (Below.trod Try.laid3 (by kernel_rfl) (of_decide_eq_true (by kernel_rfl)) h0k hB (fun x hx => hlt x (by simp [hx]))) hA1

theorem proved : Rows.DeviceTornSaid :=
  OpenClaim.holds_of_wide 6 Try.f6 rfl rfl rfl rfl rfl rfl rfl ⟨rfl, rfl, rfl, rfl, rfl⟩ rfl rfl rfl rfl rfl (by kernel_rfl) Try.func6 (by kernel_rfl)
    (of_decide_eq_true (by kernel_rfl)) (by unfold Func.isWrapper; first | (rw [if_pos (by decide +kernel)]; kernel_rfl) | (rw [if_neg (by decide +kernel)]; exact ⟨rfl, rfl⟩))
    (fun os started H enc _ => lifted os started H enc)
#print axioms proved
end Go.Proofs.Ytipfoognpenafaa.deviceTorn
