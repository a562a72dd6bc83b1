/- What is proved: a step of First answers alike on the program's forest and the document's; any step does; both lie in memory. -/
import Derived.Test.YtaiaahcblohknaaYStq
namespace Go.Proofs.Ytaiaahcblohknaa
open Go.RowKit

theorem eql_zero (w : World) : (binOp .eql 31 (.agg #[.int .i64 0, .int .i64 0, .int .i64 0]) (.agg #[.int .i64 0, .int .i64 0, .int .i64 0])).run Try.prog w = .ok (.bool true) w := by
  have h := eql_sp ⟨0, 0, 0⟩ ⟨0, 0, 0⟩ w
  simpa using h
set_option maxRecDepth 100000 in
set_option maxHeartbeats 1600000 in
theorem step_fst {w wr : World} {sb rb : Nat} {A : List Ks} {F G : Nat → Prop} {bd : Nat} (h : Duo w wr sb rb A A F G bd) (a b : Int) (k : ByteArray) (hk : k.size ≤ maxLen) (x : Sp) (hn : bd + 3 ≤ 3500000000000) : Stp w wr sb rb A bd ⟨4, a, b, k, x⟩ := by
  unfold Stp
  rw [show stp A ⟨4, a, b, k, x⟩ = A from rfl]
  have D0 : Hid _ := h.on ((Same.refl _ wr).alloc (opO ⟨4, a, b, k, x⟩))
  have G0 : Hid _ := heap_new wr (opO ⟨4, a, b, k, x⟩)
  have HLN : Hid (A.length ≤ bd) := h.a.len
  have HSR : Hid (Srt (ovK A k a b)) := (h.a.wks.2 k).sublist List.filter_sublist
  clear h
  unfold opA
  simp only
  go_enter Try.func7, Try.ntmps7
  go_upto_region 1 with fail
  generalize wr.alloc (opO ⟨4, a, b, k, x⟩) = Y at *
  generalize wr.heap.size = g at *
  obtain ⟨c0, c1, c2, c3, c4, c5, c6⟩ := op_obj G0.out
  have hg := lt_of_heap G0.out
  simp only at c0 c1 c2 c3 c4 c5 c6
  have HI : Hid _ := first14 (Duo.a D0.out) k hk a b
  unfold spV at HI
  have HR : Hid (∀ W', Kept Y W' → _) := fun W' k' => rfirst14 (Duo.b (D0.out.on k')) k a b (by have h9 : A.length ≤ bd := HLN.out; omega) HSR.out
  unfold RFs at HR
  generalize bst (ovK A k a b) = o at *
  generalize hz : fst o = z at *
  obtain ⟨zf, zt, zi⟩ := z
  have HZ : Hid (fst o = ⟨zf, zt, zi⟩) := hz
  clear hz
  simp only at HI
  generalize hos : o.isSome = os at *
  have HOS : Hid (o.isSome = os) := hos
  clear hos
  go_wp2_with fail
  refine Calls.mono HI.out ?_
  rintro e w1 ⟨rfl, k1⟩
  have K1 : Hid (Kept Y (w1.alloc (spO ⟨zf, zt, zi⟩))) := Same.alloc k1 _
  have GS : Hid _ := heap_new w1 (spO ⟨zf, zt, zi⟩)
  clear k1 HI c0 c1 c2 c3 c4 c5 c6
  go_upto_region 12 with fail
  generalize w1.alloc (spO ⟨zf, zt, zi⟩) = Y1 at *
  generalize w1.heap.size = g1 at *
  have G1 : Hid _ := (K1.out.block g hg (fun e => e)).trans G0.out
  obtain ⟨c0, c1, c2, c3, c4, c5, c6⟩ := op_obj G1.out
  have hg1 := lt_of_heap G1.out
  simp only at c0 c1 c2 c3 c4 c5 c6
  have HR1 : Hid _ := HR.out Y1 K1.out
  clear HR
  go_wp2_with fail
  refine Calls.mono HR1.out ?_
  rintro e w2 ⟨⟨t, rfl, ht⟩, k2⟩
  have HT : Hid (∀ s, o = some s → t.s = s ∧ t.key.toList = k.toList) := ht
  have K2 : Hid (Kept Y1 (w2.alloc (ksO t))) := Same.alloc k2 _
  have GT : Hid _ := heap_new w2 (ksO t)
  clear k2 ht HR1 c0 c1 c2 c3 c4 c5 c6
  unfold ksV
  cases o with
  | none =>
    obtain rfl : os = false := HOS.out.symm
    have hz : fst none = ⟨zf, zt, zi⟩ := HZ.out
    have hz2 : (⟨0, 0, 0⟩ : Sp) = ⟨zf, zt, zi⟩ := hz
    simp only [Sp.mk.injEq] at hz2
    obtain ⟨e1, e2, e3⟩ := hz2
    subst e1 e2 e3
    have HS2 : Hid _ := (K2.out.block g1 (lt_of_heap GS.out) (fun e => e)).trans GS.out
    have ez := eql_zero
    have D2 : Hid (Duo w (w2.alloc (ksO t)) sb rb A A F G (bd + 1)) := (D0.out.on (Same.trans' K1.out K2.out)).up (Nat.le_succ bd)
    go_upto_region 13 with fail
    generalize w2.alloc (ksO t) = Y2 at *
    obtain ⟨s0, s1, s2⟩ := sp_cells HS2.out
    have hgs := lt_of_heap HS2.out
    simp only at s0 s1 s2
    go_wp2_with fail
    go_ret
    exact ⟨rfl, F, G, D2.out⟩
  | some s =>
    obtain rfl : os = true := HOS.out.symm
    have hz : fst (some s) = ⟨zf, zt, zi⟩ := HZ.out
    obtain rfl : s = ⟨zf, zt, zi⟩ := hz
    obtain ⟨ht1, ht2⟩ := HT.out _ rfl
    obtain ⟨tk, ts⟩ := t
    simp only at ht1 ht2
    subst ht1
    have HTK : Hid (tk.toList = k.toList) := ht2
    clear ht2
    have HS2 : Hid _ := (K2.out.block g1 (lt_of_heap GS.out) (fun e => e)).trans GS.out
    have G2 : Hid _ := (K2.out.block g (lt_of_heap G1.out) (fun e => e)).trans G1.out
    have D2 : Hid (Duo w (w2.alloc (ksO ⟨tk, ⟨zf, zt, zi⟩⟩)) sb rb A A F G (bd + 1)) := (D0.out.on (Same.trans' K1.out K2.out)).up (Nat.le_succ bd)
    have eq1 : ∀ w, (binOp .eql 58 (.agg #[.string k, .int .i64 zf, .int .i64 zt, .int .i64 zi]) (.agg #[.string tk, .int .i64 zf, .int .i64 zt, .int .i64 zi])).run Try.prog w = .ok (.bool true) w := fun w => by
      have h9 := eql_ks ⟨k, ⟨zf, zt, zi⟩⟩ ⟨tk, ⟨zf, zt, zi⟩⟩ w
      rw [show isE tk ⟨zf, zt, zi⟩ ⟨k, ⟨zf, zt, zi⟩⟩ = true by simp [isE, show tk.toList = k.toList from HTK.out]] at h9
      exact h9
    have HW : Hid (∀ W', Calls Try.prog 19 #[.string k, .agg #[.int .i64 zf, .int .i64 zt, .int .i64 zi]] W' fun r w' => r = .returned (.agg #[.string k, .int .i64 zf, .int .i64 zt, .int .i64 zi]) ∧ Kept W' w') := fun W' => with14 k ⟨zf, zt, zi⟩ W'
    go_upto_region 15 with fail
    generalize w2.alloc (ksO ⟨tk, ⟨zf, zt, zi⟩⟩) = Y2 at *
    generalize w2.heap.size = g2 at *
    obtain ⟨s0, s1, s2⟩ := sp_cells HS2.out
    obtain ⟨t0, t1, t2, t3⟩ := ks_obj GT.out
    obtain ⟨-, -, -, c3, -, -, -⟩ := op_obj G2.out
    have hgs := lt_of_heap HS2.out
    have hgt := lt_of_heap GT.out
    have hg2 := lt_of_heap G2.out
    simp only at s0 s1 s2 t0 t1 t2 t3 c3
    have HBX : Hid (∀ W', Kept Y2 W' → W'.cell? ⟨g, 3, none⟩ = some (.string k) ∧ (W'.cell? ⟨g1, 0, none⟩ = some (.int .i64 zf) ∧ W'.cell? ⟨g1, 1, none⟩ = some (.int .i64 zt) ∧ W'.cell? ⟨g1, 2, none⟩ = some (.int .i64 zi)) ∧ (W'.cell? ⟨g2, 0, none⟩ = some (.string tk) ∧ W'.cell? ⟨g2, 1, none⟩ = some (.int .i64 zf) ∧ W'.cell? ⟨g2, 2, none⟩ = some (.int .i64 zt) ∧ W'.cell? ⟨g2, 3, none⟩ = some (.int .i64 zi))) := fun W' k' =>
      ⟨(k'.cell (p := ⟨g, 3, none⟩) hg2 (fun e => e)).trans c3, ⟨(k'.cell (p := ⟨g1, 0, none⟩) hgs (fun e => e)).trans s0, (k'.cell (p := ⟨g1, 1, none⟩) hgs (fun e => e)).trans s1, (k'.cell (p := ⟨g1, 2, none⟩) hgs (fun e => e)).trans s2⟩, ⟨(k'.cell (p := ⟨g2, 0, none⟩) hgt (fun e => e)).trans t0, (k'.cell (p := ⟨g2, 1, none⟩) hgt (fun e => e)).trans t1, (k'.cell (p := ⟨g2, 2, none⟩) hgt (fun e => e)).trans t2, (k'.cell (p := ⟨g2, 3, none⟩) hgt (fun e => e)).trans t3⟩⟩
    go_region_held3 (fun W' => W'.cell? ⟨g, 3, none⟩ = some (.string k) ∧ (W'.cell? ⟨g1, 0, none⟩ = some (.int .i64 zf) ∧ W'.cell? ⟨g1, 1, none⟩ = some (.int .i64 zt) ∧ W'.cell? ⟨g1, 2, none⟩ = some (.int .i64 zi)) ∧ (W'.cell? ⟨g2, 0, none⟩ = some (.string tk) ∧ W'.cell? ⟨g2, 1, none⟩ = some (.int .i64 zf) ∧ W'.cell? ⟨g2, 2, none⟩ = some (.int .i64 zt) ∧ W'.cell? ⟨g2, 3, none⟩ = some (.int .i64 zi)))
      (exact HBX.out _ (by (repeat (first | exact Same.refl _ _ | apply Same.drew | apply Same.drewN | refine Same.trans' ?_ kq)); done))
      ((go_at_call 19; refine Calls.mono (HW.out _) ?_; rintro r w9 ⟨rfl, kq⟩))
    all_goals
      go_wp2_with fail
      go_ret
      exact ⟨rfl, F, G, Duo.on D2.out (by (repeat (first | exact Same.refl _ _ | apply Same.drew | apply Same.drewN | refine Same.trans' ?_ kq)); done)⟩
/-- Any step. -/
theorem step14_any {w wr : World} {sb rb : Nat} {A : List Ks} {F G : Nat → Prop} {bd : Nat} (h : Duo w wr sb rb A A F G bd) (o : OpY) (hk : o.key.size ≤ maxLen) (hn : bd + 3 ≤ 3500000000000) : Stp w wr sb rb A bd o := by
  obtain ⟨kd, a, b, k, x⟩ := o
  by_cases h1 : kd = 1
  · subst h1; exact step_ins h a b k hk x hn
  by_cases h2 : kd = 2
  · subst h2; exact step_rem h a b k hk x hn
  by_cases h3 : kd = 3
  · subst h3; exact step_ovl h a b k hk x hn
  by_cases h4 : kd = 4
  · subst h4; exact step_fst h a b k hk x hn
  by_cases h5 : kd = 5
  · subst h5; exact step_drp h a b k x hn
  by_cases h6 : kd = 6
  · subst h6; exact step_cnt h a b k hk x hn
  exact step_none h _ h1 h2 h3 h4 h5 h6
end Go.Proofs.Ytaiaahcblohknaa
