/- What is proved: the document's scanner in memory: Next, behind the head; no condition. -/
import Derived.Test.YtmajfclkhjnahaaLRe
import Derived.Test.YtmajfclkhjnahaaLRead
namespace Go.Proofs.Ytmajfclkhjnahaa
open Go.RowKit

section
variable {w w' : World} {rb : Nat} {oa : Option Addr} {c : Nat} {d : List Int} {en : Bool} {s : Sc}
set_option maxRecDepth 100000 in
set_option maxHeartbeats 1600000 in
theorem rnext_er (h : Rs w rb oa c d en s) (h0 : s.er ≠ 0) : Calls Try.prog 9 #[.pointer (some ⟨rb, 0, none⟩)] w fun x w' => RsR w rb oa c d en (none, s) x w' := by
  obtain ⟨-, -, -, -, -, c5⟩ := h.cells
  have hlt := h.lt
  have hd : Hid (∀ k, InB oa d.length k → k < w.heap.size) := fun k hk => h.arg.data.lt hk
  have g0 : (s.er != 0) = true := by simpa using h0
  have H : Hid _ := h
  clear h h0 hd
  go_enter Try.func9, Try.ntmps9
  go_wp2_with fail
  go_region
  go_wp2_with fail
  have b1 := (Same.two (S := fun _ => False) (Same.refl _ ((w.alloc (.cells txz 37 (0, 0))).alloc (.cells txz 37 (0, 0)))) (fun h => h) (fun h => h)).1
  refine bodyPost_ret (res_ctt (a := 2) (t := 37) (u := 3) (s := 4) rfl rfl (loadVar_tx_drew b1)) rfl ?_
  exact ⟨_, rfl, rfl, H.out.on ((((Same.refl _ w).alloc _).alloc _).drew), (((Same.refl _ w).alloc _).alloc _).drew⟩
/-- The magic's box. -/
def mgo : Obj := .cells #[.int .u8 80, .int .u8 82, .int .u8 79, .int .u8 1] 56 (0, 0)
set_option maxRecDepth 100000 in
set_option maxHeartbeats 1600000 in
theorem rnext_go (h : Rs w rb oa c d en s) (h0 : s.er = 0) (hp : s.pl ≠ 0) : Calls Try.prog 9 #[.pointer (some ⟨rb, 0, none⟩)] w fun x w' => RsR w rb oa c d en (goOn d en s) x w' := by
  obtain ⟨c0, -, c2, -, c4, c5⟩ := h.cells
  have hlt := h.lt
  have hlt1 : rb < w.heap.size + 1 := by omega
  have hlt2 : rb < w.heap.size + 1 + 1 := by omega
  have hne : ¬ w.heap.size = rb := by omega
  have hne1 : ¬ w.heap.size + 1 = rb := by omega
  have B0 : Hid ((((w.alloc (.cells txz 37 (0, 0))).alloc (.cells txz 37 (0, 0))).alloc mgo).heap[w.heap.size]? = some (.cells txz 37 (0, 0)) ∧ (((w.alloc (.cells txz 37 (0, 0))).alloc (.cells txz 37 (0, 0))).alloc mgo).heap[w.heap.size + 1]? = some (.cells txz 37 (0, 0))) := Same.two (S := fun _ => False) ((Same.refl _ _).alloc _) (fun h => h) (fun h => h)
  have KA : Hid (Kept w (((w.alloc (.cells txz 37 (0, 0))).alloc (.cells txz 37 (0, 0))).alloc mgo)) := (((Same.refl _ w).alloc _).alloc _).alloc _
  have hle := h.arg.le
  have hd : Hid (∀ k, InB oa d.length k → k < w.heap.size) := fun k hk => h.arg.data.lt hk
  rw [h0] at c5
  have g1 : ((s.pl : Int) == 0) = false := by simpa using hp
  have hple := h.ple
  have HPL : Hid _ := hple
  have H : Hid _ := h
  have H0 : Hid _ := h0
  have HR : Hid (∀ W, Kept w W → Rs W rb oa c d en s) := fun W k => h.on k
  clear h h0 hp
  cases hf : s.ft with
  | false =>
    have HEN : Hid (∀ W, Kept w W → _) := fun W (k : Kept w W) => rentry_any (H.out.on k) H0.out
    have HF : Hid _ := hf
    rw [hf] at c4
    clear hf
    go_enter Try.func9, Try.ntmps9
    go_wp2_with fail
    refine Calls.mono (HEN.out _ KA.out) ?_
    rintro x w2 ⟨tv, rfl, n2, r2, k2⟩
    obtain ⟨u, ua, un, uc, rfl⟩ := n2.agg
    have b1 := (k2.block _ (lt_of_heap B0.out.1) hne).trans B0.out.1
    obtain ⟨⟨m0, m1, m2, m3, m4, m5, m6, m7⟩, f0, f1, f2, f3, f4, f5, f6, f7⟩ := tx_obj b1
    have hb1 := lt_of_heap b1
    have B1 : Hid _ := b1
    have N2 : Hid (NxV (w.heap.size + 1) w2 (entry d en s).1 (.agg #[.int .i64 u.f0, .int .i64 u.f1, .int .i64 u.f2, .int .i64 u.f3, .int .i64 u.f4, .int .i64 u.f5, .int .i64 u.f6, .slice ua un uc])) := NxV.lower n2 (by simp only [World.size_alloc]; omega)
    have R2 : Hid _ := r2
    have K2 : Hid (Same (fun k => k = rb) w w2) := (Kept.to KA.out _).trans' k2
    clear b1 n2 r2 k2
    go_wp2_with fail
    refine bodyPost_ret (res_ctt (a := 2) (t := 37) (u := 3) (s := 4) rfl rfl (loadVar_tx (put8_at B1.out _ _ _ _ _ _ _ _))) rfl ?_
    have q8 := put8_same w2 w.heap.size (.int .i64 u.f0) (.int .i64 u.f1) (.int .i64 u.f2) (.int .i64 u.f3) (.int .i64 u.f4) (.int .i64 u.f5) (.int .i64 u.f6) (.slice ua un uc)
    rw [go_entry HF.out]
    exact ⟨_, rfl, NxV.lower (NxV.kept N2.out q8 (fun k hk (e : k = w.heap.size) => by omega)) (Nat.le_succ _), R2.out.past q8 (fun e => hne e.symm) hd.out, K2.out.trans q8 (fun i hi e => absurd hi (by rw [e]; exact Nat.lt_irrefl _))⟩
  | true =>
    have HF : Hid _ := hf
    rw [hf] at c4
    obtain ⟨n, en'⟩ : ∃ n, n = d.length := ⟨_, rfl⟩
    have EN : Hid _ := en'
    rw [← en'] at c0 hle
    have hni : (n : Int) ≤ 140737488351232 := by omega
    by_cases hl : s.pl < d.length
    · have g2 : decide ((s.pl : Int) < (n : Int)) = true := decide_eq_true (by omega)
      have g2' : (s.pl : Int) < (n : Int) := by omega
      have HL : Hid _ := hl
      clear hl hf hple en'
      go_enter Try.func9, Try.ntmps9
      go_wp2_with fail
      go_quiet (fail)
      go_wp2_with fail
      go_region_with (go_at_call 19; refine Calls.mono (rfail_any (HR.out _ (by (repeat (first | exact KA.out | apply Same.drewN | apply Same.drew)); done)) s.pl HPL.out 61) ?_; rintro x w2 ⟨rfl, s2, k2⟩; have k3 : Same (fun k => k = rb) (((w.alloc (.cells txz 37 (0, 0))).alloc (.cells txz 37 (0, 0))).alloc mgo) w2 := Same.trans' (by (repeat (first | exact Same.refl _ _ | apply Same.drewN | apply Same.drew)); done) k2; have b1 := (k3.block _ (lt_of_heap B0.out.1) hne).trans B0.out.1; have b2 := (k3.block _ (lt_of_heap B0.out.2) hne1).trans B0.out.2; obtain ⟨⟨m0, m1, m2, m3, m4, m5, m6, m7⟩, f0, f1, f2, f3, f4, f5, f6, f7⟩ := tx_obj b1; obtain ⟨⟨u0, u1, u2, u3, u4, u5, u6, u7⟩, -⟩ := tx_obj b2; have S2 : Hid _ := s2; have K3 : Hid (Same (fun k => k = rb) w w2) := (Kept.to KA.out _).trans' k3; have B1 : Hid _ := b1; clear s2 k2 k3 b1 b2)
      all_goals go_wp2_with fail
      all_goals refine bodyPost_ret (res_ctt (a := 2) (t := 37) (u := 3) (s := 4) rfl rfl (loadVar_tx (put8_at B1.out _ _ _ _ _ _ _ _))) rfl ?_
      all_goals rw [go_foot HF.out, if_pos HL.out]
      all_goals exact rs_none0 K3.out hlt S2.out hd.out _ (put8_same _ _ _ _ _ _ _ _ _ _)
    · have g2 : decide ((s.pl : Int) < (n : Int)) = false := decide_eq_false (by omega)
      have g2' : ¬ (s.pl : Int) < (n : Int) := by omega
      have HL : Hid _ := hl
      clear hl hf hple en'
      go_enter Try.func9, Try.ntmps9
      go_wp2_with fail
      go_quiet (fail)
      go_wp2_with fail
      have b1 := (((Same.refl (fun _ => False) _).drewN nq).block _ (lt_of_heap B0.out.1) (fun h => h)).trans B0.out.1
      refine bodyPost_ret (res_ctt (a := 2) (t := 37) (u := 3) (s := 4) rfl rfl (loadVar_tx (put8_at b1 _ _ _ _ _ _ _ _))) rfl ?_
      rw [go_foot HF.out, if_neg HL.out]
      have hz := rs_none0 (s' := s) ((Kept.to KA.out _).drewN nq) hlt (HR.out _ (KA.out.drewN nq)) hd.out _ (put8_same _ _ (.int .i64 0) (.int .i64 0) (.int .i64 0) (.int .i64 0) (.int .i64 0) (.int .i64 0) (.int .i64 0) (.slice none 0 0))
      rw [H0.out] at hz
      exact hz
end
end Go.Proofs.Ytmajfclkhjnahaa
