/- What is proved: the given statement on StreamBack: for every argument the law returns true, and its arguments read as before; no condition. -/
import Derived.Test.YtemfeaooenaelaaSBkL
namespace Go.Proofs.Ytemfeaooenaelaa
open Go.ChangeShapes Go.WideShapes Go.ChangeAt Go.RowKit

set_option maxRecDepth 100000 in
set_option maxHeartbeats 4000000 in
theorem back_no (w : World) (Z : Int) (pa : Option Addr) (pc : Nat) (P : List (List Int)) (hP : PcsAt w pa P) (hPl : P.length ≤ 140737488351232) (oa : Option Addr) (c : Nat) (o : List Int) (hx : Z < 16 ∨ 1024 < Z ∨ 1000 < o.length) :
    Calls Try.prog 5 #[.int .i64 Z, .slice pa P.length pc, .slice oa o.length c] w fun e w' => e = .returned (.bool true) ∧ Kept w w' := by
  have HAN : Hid _ := anchor_any8 w
  have hnot : ∀ (x : Bool) (w : World), (Op.unary .not (.bool x)).run Try.prog w = .ok (.bool (!x)) w := fun _ _ => rfl
  have HP : Hid _ := hP
  obtain ⟨n, en⟩ : ∃ n, n = P.length := ⟨_, rfl⟩
  obtain ⟨ol, eo⟩ : ∃ ol, ol = o.length := ⟨_, rfl⟩
  have EN : Hid _ := en
  rw [← en, ← eo]
  rw [← eo] at hx
  rw [← en] at hPl
  clear hP en eo
  go_enter Try.func5, Try.ntmps5
  go_wp2_with fail
  refine Calls.mono HAN.out ?_
  rintro x w1 ⟨rfl, k1⟩
  have K1 : Hid _ := k1
  clear k1 HAN
  go_wp2_with fail
  go_loopw [7, 36] (fun t i wr => ∃ q : Nat, q ≤ n ∧ i = .int .i64 (q : Int) ∧ t = .int .i64 (((P.take q).flatten.length : Nat) : Int) ∧ (P.take q).flatten.length ≤ 24000 ∧ (∀ l ∈ P.take q, l.length ≤ 4000) ∧ wr = w1) (fun _ i _ => n - (intOf i).toNat)
  case atStart => exact ⟨0, Nat.zero_le _, rfl, rfl, Nat.zero_le _, fun l hl => (by simp at hl), rfl⟩
  case round =>
    obtain ⟨q, hq, rfl, rfl, htot, hall, rfl⟩ := hrel
    by_cases hlt : q < n
    · have e1 : decide ((q : Int) < (n : Int)) = true := decide_eq_true (by omega)
      have e1' : (q : Int) < (n : Int) := by omega
      obtain ⟨l, hl⟩ : ∃ l, P[q]? = some l := ⟨_, List.getElem?_eq_getElem (by rw [← EN.out]; exact hlt)⟩
      obtain ⟨bb, off, x, cx, rfl, hbb, cl, hby, hnil, hlen⟩ := (PcsAt.on HP.out K1.out) q l hl
      have HTK : Hid _ := take_fl hl
      have HALL : Hid (l.length ≤ 4000 → ∀ x ∈ P.take (q + 1), x.length ≤ 4000) := fun h x hx => by
        rw [List.take_add_one, hl] at hx
        rcases List.mem_append.1 hx with hx | hx
        · exact hall x hx
        · simp at hx
          subst hx
          exact h
      have HQ : Hid _ := hlt
      obtain ⟨z, ez⟩ : ∃ z, z = (P.take q).flatten.length := ⟨_, rfl⟩
      rw [← ez] at htot ⊢
      have EZ : Hid _ := ez
      obtain ⟨m, em⟩ : ∃ m, m = l.length := ⟨_, rfl⟩
      rw [← em] at cl hlen HALL
      have EM : Hid _ := em
      clear hall hl hby hnil ez em
      by_cases h4 : 4000 < m
      · have g1 : (4000 : Int) < (m : Int) := by omega
        go_wp2_with fail
        go_ret
        exact ⟨rfl, K1.out⟩
      · have g1 : ¬ (4000 : Int) < (m : Int) := by omega
        by_cases h5 : 20000 < z
        · have g2 : (20000 : Int) < (z : Int) := by omega
          go_wp2_with fail
          go_ret
          exact ⟨rfl, K1.out⟩
        · have g2 : ¬ (20000 : Int) < (z : Int) := by omega
          have hw : IntKind.i64.wrap ((z : Int) + (m : Int)) = (z : Int) + (m : Int) := by rw [IntKind.wrap_i64]; omega
          go_wp2_with fail
          go_roundw
          case rel => exact ⟨q + 1, HQ.out, by rw [Int.natCast_add]; rfl, by rw [HTK.out, List.length_append, ← EZ.out, ← EM.out, Int.natCast_add], by rw [HTK.out, List.length_append, ← EZ.out, ← EM.out]; omega, HALL.out (by omega), by first | trivial | rfl⟩
          case measure => simp only [intOf]; omega
    · obtain rfl : n = q := by omega
      have e1 : decide ((n : Int) < (n : Int)) = false := by simp
      clear hq hlt hall htot
      by_cases h1 : Z < 16
      · go_wp2_with fail
        go_ret
        exact ⟨rfl, K1.out⟩
      · by_cases h2 : 1024 < Z
        · go_wp2_with fail
          go_ret
          exact ⟨rfl, K1.out⟩
        · have h3 : (1000 : Int) < (ol : Int) := by omega
          go_wp2_with fail
          go_ret
          exact ⟨rfl, K1.out⟩

theorem back_law (w : World) (Z : Int) (pa : Option Addr) (pc : Nat) (P : List (List Int)) (hP : PcsAt w pa P) (hPl : P.length ≤ 140737488351232) (oa : Option Addr) (c : Nat) (o : List Int) (ho : ArgB w oa c o) :
    Calls Try.prog 5 #[.int .i64 Z, .slice pa P.length pc, .slice oa o.length c] w fun e w' => e = .returned (.bool true) ∧ Kept w w' := by
  by_cases hx : Z < 16 ∨ 1024 < Z ∨ 1000 < o.length
  · exact back_no w Z pa pc P hP hPl oa c o hx
  · obtain ⟨B, rfl⟩ : ∃ B : Nat, Z = (B : Int) := ⟨Z.toNat, by omega⟩
    exact back_go w B (by omega) (by omega) pa pc P hP hPl oa c o ho (by omega)

theorem weights_all {H : Type} {t : TypeId} {n : Nat} : ∀ {l : List (DataW H)} {d : DataW H}, d ∈ l → n ∈ d.weights Try.prog t → n ∈ DataW.weightsAll Try.prog t l
  | x :: r, d, hd, hn => by
    rw [DataW.weightsAll, List.mem_append]
    rcases List.mem_cons.1 hd with rfl | hd
    · exact .inl hn
    · exact .inr (weights_all hd hn)
theorem Try.cellsLs : Try.prog.cellsOf 22 = 1 := by kernel_rfl
theorem Try.bytesLs : Try.prog.bytesOf 22 = 24 := by kernel_rfl
theorem open_pcs {H : Type} {enc : TypeId × Value → H} {W : World} {fuel : Nat} {sa : Option Addr} {len cap : Nat} {d : DataW H} {p : List MemPlace}
    (h : DataW.trod enc Try.prog W 0 (fun _ => true) true fuel 52 [.slice sa len cap] = some (d, p)) : ∃ P : List (List Int), len = P.length ∧ ((∀ n ∈ d.weights Try.prog 52, n ≤ reachBytes) → PcsAt W sa P ∧ P.length ≤ 140737488351232) := by
  rcases Go.Deep.open_slice1 Try.underlying52 Try.cellsLs h with ⟨hcs, hd⟩ | ⟨a, len', cap', m, n, V, D, Pl, hcs, _, hl, hm, hmm, hd, hx⟩
  · simp only [List.cons.injEq, Value.slice.injEq, and_true] at hcs
    obtain ⟨rfl, rfl, rfl⟩ := hcs
    exact ⟨[], rfl, fun _ => ⟨fun i l hl => by simp at hl, by simp⟩⟩
  · simp only [List.cons.injEq, Value.slice.injEq, and_true] at hcs
    obtain ⟨rfl, rfl, rfl⟩ := hcs
    simp only [if_true] at hmm
    simp only [Prod.mk.injEq] at hd
    have each : ∀ i, i < len → ∃ t : Option Addr × Nat × List Int, W.cell? (a.add i) = some (.slice t.1 t.2.2.length t.2.1) ∧ ((∀ n ∈ (D i).weights Try.prog 22, n ≤ reachBytes) → ArgB W t.1 t.2.1 t.2.2) := by
      intro i hi
      obtain ⟨h1, h2⟩ := hx i (by omega)
      have hs : ∃ x k c, V i = .slice x k c := by
        rcases Go.Deep.open_slice Try.underlying22 h2 with ⟨e, -⟩ | ⟨a2, l2, c2, m2, n2, D2, P2, e, -⟩
        · simp only [List.cons.injEq, and_true] at e
          exact ⟨_, _, _, e⟩
        · simp only [List.cons.injEq, and_true] at e
          exact ⟨_, _, _, e⟩
      obtain ⟨x, k, c, e⟩ := hs
      rw [e] at h1 h2
      obtain ⟨l, rfl, r1⟩ := open_argB h2
      exact ⟨(x, c, l), h1, r1⟩
    obtain ⟨q, hq⟩ := Go.Deep.choose_lt each
    obtain ⟨e1, e2⟩ := list_of len fun i => (q i).2.2
    refine ⟨(List.range len).map fun i => (q i).2.2, e1.symm, fun hw => ⟨fun i l hi => ?_, ?_⟩⟩
    · obtain ⟨hi', rfl⟩ := e2 i l hi
      obtain ⟨h0, h1⟩ := hq i hi'
      have h1 := h1 fun n hn => hw n (by
        rw [hd.1]
        simp only [DataW.weights, Try.underlying52]
        refine List.mem_cons_of_mem _ (List.mem_append.2 (.inl (weights_all (List.mem_map.2 ⟨i, List.mem_range.2 hi', rfl⟩) hn))))
      obtain ⟨h00, -⟩ := hq 0 (by omega)
      obtain ⟨b, off, spot⟩ := a
      have hspot : spot = none := by simpa [Addr.add] using World.cell?_spot h00
      subst hspot
      rw [Go.WideShapes.add_plain] at h0
      exact ⟨b, off, _, _, rfl, World.block_lt_of_cell? W _ h0, h0, h1.data, h1.nil, h1.le⟩
    · rw [e1]
      have := hw ((len + (m - len)) * 24) (by
        rw [hd.1]
        simp only [DataW.weights, Try.underlying52, Try.bytesLs, List.length_map, List.length_range]
        exact List.mem_cons_self)
      unfold reachBytes at this
      omega
end Go.Proofs.Ytemfeaooenaelaa
namespace Go.Proofs.Ytemfeaooenaelaa.streamBack
open Go.ChangeShapes Go.WideShapes Go.ChangeAt Go.RowKit

theorem own : ownKnob Try.prog.godebug = none := by kernel_rfl

theorem walk (B : Int) (pa : Option Addr) (pc : Nat) (P : List (List Int)) (oa : Option Addr) (c : Nat) (o : List Int) (w : World) (hP : PcsAt w pa P ∧ P.length ≤ 140737488351232) (ho : ArgB w oa c o) (_ : (Lit.int .i64 B).wf = true) :
    Calls Try.prog 5 #[.int .i64 B, .slice pa P.length pc, .slice oa o.length c] w fun e w' => e = .returned (.bool true) ∧ Kept w w' := back_law w B pa pc P hP.1 hP.2 oa c o ho

set_option maxRecDepth 100000 in
theorem lifted (os : Os) (started : os.Started) (H : Type) (enc : TypeId × Value → H) :
    ReturnsInHanded {} Try.checked os 5 .any (Rows.streamBackSpec.pre6 enc Try.prog Try.f5 Rows.streamBackRow.domain false) (Rows.streamBackSpec.post enc Try.prog Try.f5 false true false false) := by
  refine returnsInHanded_of_change_sized (C := Try.checked) own started (by kernel_rfl) Try.func5
    (ChangeSpec.witness6 (enc := enc) (C := Try.checked) false ⟨#[], #[.int .i64 0, .slice none 0 0, .slice none 0 0], []⟩ 8 (by kernel_rfl) (by kernel_rfl) (by kernel_rfl) (by kernel_rfl)) ?_
  intro W base args ds gs before hval0 hW hcnd hsz _
  have hval : ∀ (j : Nat) t v, Try.f5.params[j]? = some t → args[j]? = some v → Value.okWide Try.prog W .any base t v := hval0
  have hW' := hW
  obtain ⟨p, q, hA0, hV, rfl, hfz, hnd⟩ := hW
  have hA : DataW.TrodAll enc Try.prog W 0 (fun _ => true) true Try.f5.params.toList args.toList ds p := hA0
  have hP : Try.f5.params.toList = [3, 52, 22] := by kernel_rfl
  rw [Try.params5] at hA hval
  obtain ⟨v0, vs0, d0, ds0, p0, q0, hargs0, rfl, rfl, h0, r0⟩ := trodAll_cons hA
  obtain ⟨v1, vs1, d1, ds1, p1, q1, hargs1, rfl, rfl, h1, r1⟩ := trodAll_cons r0
  obtain ⟨v2, vs2, d2, ds2, p2, q2, hargs2, rfl, rfl, h2, r2⟩ := trodAll_cons r1
  obtain ⟨rfl, rfl, rfl⟩ := trodAll_nil r2
  obtain rfl : args = #[v0, v1, v2] := by cases args; simp_all
  obtain ⟨rfl, rfl⟩ := trodVars_none hV
  rw [hP, List.append_nil] at hsz
  have hw1 : ∀ n ∈ d1.weights Try.prog 52, n ≤ reachBytes := fun n hn => by
    have := List.all_eq_true.1 hsz n (by
      simp only [List.cons_append, DataW.weightsEach, List.mem_append]
      exact .inr (.inl hn))
    simpa using this
  have hw2 : ∀ n ∈ d2.weights Try.prog 22, n ≤ reachBytes := fun n hn => by
    have := List.all_eq_true.1 hsz n (by
      simp only [List.cons_append, DataW.weightsEach, List.mem_append]
      exact .inr (.inr (.inl hn)))
    simpa using this
  obtain ⟨a0, rfl, rfl, rfl, w0⟩ := open_int Try.underlying3 (hval 0 3 v0 rfl rfl) h0
  obtain ⟨s1, n1, c1, rfl⟩ := okWide_slice Try.underlying52 (hval 1 52 v1 rfl rfl)
  obtain ⟨s2, n2, c2, rfl⟩ := okWide_slice Try.underlying22 (hval 2 22 v2 rfl rfl)
  clear hA0 hval0
  simp only [List.append_nil] at hW'
  have hlt1 : ∀ x ∈ p1, x.block < W.heap.size := fun x hx => by simpa using hW'.lt x (by simp [hx])
  have k1 := h1
  obtain ⟨fuel1, g1⟩ := h1
  have e1 : DataW.trod enc Try.prog W 0 (fun _ => true) true fuel1 52 [.slice s1 n1 c1] = some (d1, p1) := by simpa [Value.cells] using g1
  obtain ⟨l1, rfl, f1⟩ := open_pcs e1
  have f1 := f1 hw1
  have hlt2 : ∀ x ∈ p2, x.block < W.heap.size := fun x hx => by simpa using hW'.lt x (by simp [hx])
  have k2 := h2
  obtain ⟨fuel2, g2⟩ := h2
  have e2 : DataW.trod enc Try.prog W 0 (fun _ => true) true fuel2 22 [.slice s2 n2 c2] = some (d2, p2) := by simpa [Value.cells] using g2
  obtain ⟨l2, rfl, f2⟩ := open_argB e2
  have f2 := f2 hw2
  refine (walk a0 s1 c1 l1 s2 c2 l2 W f1 f2 w0).mono fun e W' ⟨he, hk⟩ => ?_
  subst he
  have hB : Below W.heap.size W W' := Same.below hk (Nat.le_refl _) (fun _ h => h.elim)
  refine ⟨_, rfl, _, _, _, [], p1 ++ p2, [], hW', trodAll_cons_mk (shut_bool Try.underlying4 _) trodAll_mk0, ?_, rfl, hB.frame _, fun h => by cases h⟩
  show DataW.TrodAll enc Try.prog W' 0 _ true Try.f5.params.toList [.int .i64 a0, .slice s1 l1.length c1, .slice s2 l2.length c2] [.lit (.int .i64 a0), d1, d2] _
  rw [Try.params5]
  have hA2 := trodAll_cons_mk (shut_int Try.underlying3 w0) (trodAll_cons_mk (Below.trod Try.laid5 (by kernel_rfl) (of_decide_eq_true (by kernel_rfl)) k1 hB hlt1) (trodAll_cons_mk (Below.trod Try.laid5 (by kernel_rfl) (of_decide_eq_true (by kernel_rfl)) k2 hB hlt2) trodAll_mk0))
  simpa only [List.append_nil, List.nil_append] using hA2

theorem proved : Rows.StreamBackSaid :=
  OpenClaim.holds_of_wide 5 Try.f5 rfl rfl rfl rfl rfl rfl rfl ⟨rfl, rfl, rfl, rfl, rfl⟩ rfl rfl rfl rfl rfl (by kernel_rfl) Try.func5 (by kernel_rfl)
    (of_decide_eq_true (by kernel_rfl)) (by unfold Func.isWrapper; first | (rw [if_pos (by decide +kernel)]; kernel_rfl) | (rw [if_neg (by decide +kernel)]; exact ⟨rfl, rfl⟩))
    (fun os started H enc _ => lifted os started H enc)
#print axioms proved
end Go.Proofs.Ytemfeaooenaelaa.streamBack
