/- What is proved: the document's refuse answers as the plain one does; its machine lies in memory. -/
import Derived.Test.YtmghmacgljihcaaKRw
import Derived.Test.YtmghmacgljihcaaKRdo
namespace Go.Proofs.Ytmghmacgljihcaa
open Go.RowKit

abbrev stA (s : Stp) : Value := .agg #[.int .i64 s.kind, .int .i64 s.ses, .int .i64 s.gap, .string s.key, .string s.value]
abbrev stO (s : Stp) : Obj := .cells #[.int .i64 s.kind, .int .i64 s.ses, .int .i64 s.gap, .string s.key, .string s.value] 43 (0, 0)
theorem st_cells {w : World} {g : Nat} {s : Stp} (h : w.heap[g]? = some (stO s)) : w.cell? ⟨g, 0, none⟩ = some (.int .i64 s.kind) ∧ w.cell? ⟨g, 1, none⟩ = some (.int .i64 s.ses) ∧ w.cell? ⟨g, 2, none⟩ = some (.int .i64 s.gap) ∧ w.cell? ⟨g, 3, none⟩ = some (.string s.key) ∧ w.cell? ⟨g, 4, none⟩ = some (.string s.value) :=
  ⟨(cell_of h 0).trans rfl, (cell_of h 1).trans rfl, (cell_of h 2).trans rfl, (cell_of h 3).trans rfl, (cell_of h 4).trans rfl⟩
abbrev RfP (w : World) (rb n : Nat) (R : Rr) (s : Stp) : Prop := Calls Try.prog 35 #[.pointer (some ⟨rb, 0, none⟩), stA s] w fun e w' => e = .returned (.int .i64 (rCode n R s)) ∧ Kept w w'
set_option maxRecDepth 100000 in
set_option maxHeartbeats 3200000 in
theorem refuse_1 {w : World} {rb n : Nat} {fl : Int} {R : Rr} {a : Option Addr} {cap : Nat} {ev : Value} (h : Rd w rb n fl R a cap ev) (hs : Sml R) (se gp : Int) (k v : ByteArray) (hk : k.size ≤ maxLen) (hv : v.size ≤ maxLen) : RfP w rb n R ⟨1, se, gp, k, v⟩ := by
  have HH : Hid (Rd w rb n fl R a cap ev) := h
  have hn := hs.n
  have hks : (k.size : Int) ≤ 9223372036854775807 := by unfold maxLen at hk; omega
  have hvs : (v.size : Int) ≤ 9223372036854775807 := by unfold maxLen at hv; omega
  have K0 : Hid (Kept w (w.alloc (stO ⟨1, se, gp, k, v⟩))) := (Same.refl _ w).alloc _
  have G0 : Hid _ := heap_new w (stO ⟨1, se, gp, k, v⟩)
  have HAC : Hid _ := ractive15 (h.on K0.out) hn se
  have HRD : Hid (Rd (w.alloc (stO ⟨1, se, gp, k, v⟩)) rb n fl R a cap ev) := h.on K0.out
  have HIN : Hid (∀ q, rAct R.all se = some q → q < R.all.length) := fun q hq => by
    obtain ⟨r, h1, -⟩ := rAct_in hq
    exact (List.getElem?_eq_some_iff.1 h1).1
  unfold RfP
  obtain ⟨cd, ecd⟩ : ∃ cd, cd = rCode n R ⟨1, se, gp, k, v⟩ := ⟨_, rfl⟩
  rw [← ecd]
  have ECD : Hid (cd = rCode n R ⟨1, se, gp, k, v⟩) := ecd
  unfold stA
  simp only
  clear h ecd hk hv
  go_enter Try.func35, Try.ntmps35
  go_upto_region 1 with fail
  generalize w.alloc (stO ⟨1, se, gp, k, v⟩) = W at *
  generalize w.heap.size = g at *
  obtain ⟨c0, c1, c2, c3, c4⟩ := st_cells G0.out
  have hg := lt_of_heap G0.out
  simp only at c0 c1 c2 c3 c4
  have m0 := HRD.out.c0
  have m2 := HRD.out.c2
  have m3 := HRD.out.c3
  have hrl := HRD.out.lt
  obtain ⟨L, eL⟩ : ∃ L, L = R.all.length := ⟨_, rfl⟩
  rw [← eL] at hn m3
  have EL : Hid (L = R.all.length) := eL
  clear eL
  go_wp2_with fail
  refine Calls.mono HAC.out ?_
  rintro r2 w2 ⟨rfl, e2⟩
  subst e2
  clear HAC
  by_cases s1 : se < 0
  · have f1 : decide (se < 0) = true := decide_eq_true s1
    have EC : Hid (cd = 152) := (show cd = _ from ECD.out).trans (by simp [rCode, codeB, s1])
    go_upto_region 5 with fail
    go_quiet (fail)
    go_wp2_with fail
    go_ret
    exact ⟨by rw [show cd = 152 from EC.out]; rfl, (by (repeat (first | exact K0.out | apply Same.drewN | apply Same.drew)); done)⟩
  have N_s1 : Hid (¬ (se < 0)) := s1
  have f1 : decide (se < 0) = false := decide_eq_false s1
  by_cases s2 : (n : Int) ≤ se
  · have f2 : decide ((n : Int) ≤ se) = true := decide_eq_true s2
    have EC : Hid (cd = 152) := (show cd = _ from ECD.out).trans (by simp [rCode, codeB, s2])
    go_upto_region 5 with fail
    go_quiet (fail)
    go_wp2_with fail
    go_ret
    exact ⟨by rw [show cd = 152 from EC.out]; rfl, (by (repeat (first | exact K0.out | apply Same.drewN | apply Same.drew)); done)⟩
  have N_s2 : Hid (¬ ((n : Int) ≤ se)) := s2
  have f2 : decide ((n : Int) ≤ se) = false := decide_eq_false s2
  go_upto_region 5 with fail
  go_quiet (fail)
  clear m0
  by_cases g1 : gp < 0
  · have f_g1 : decide (gp < 0) = true := decide_eq_true g1
    have EC : Hid (cd = 153) := (show cd = _ from ECD.out).trans (by simp [rCode, codeB, eq_false (show ¬ (se < 0) by have h9 := N_s1.out; omega), eq_false (show ¬ ((n : Int) ≤ se) by have h9 := N_s2.out; omega), g1])
    go_wp2_with fail
    go_ret
    exact ⟨by rw [show cd = 153 from EC.out]; rfl, (by (repeat (first | exact K0.out | apply Same.drewN | apply Same.drew)); done)⟩
  have N_g1 : Hid (¬ (gp < 0)) := g1
  have f_g1 : decide (gp < 0) = false := decide_eq_false g1
  by_cases g2 : (1000 : Int) < gp
  · have f_g2 : decide ((1000 : Int) < gp) = true := decide_eq_true g2
    have EC : Hid (cd = 153) := (show cd = _ from ECD.out).trans (by simp [rCode, codeB, eq_false (show ¬ (se < 0) by have h9 := N_s1.out; omega), eq_false (show ¬ ((n : Int) ≤ se) by have h9 := N_s2.out; omega), eq_false (show ¬ (gp < 0) by have h9 := N_g1.out; omega), g2])
    go_wp2_with fail
    go_ret
    exact ⟨by rw [show cd = 153 from EC.out]; rfl, (by (repeat (first | exact K0.out | apply Same.drewN | apply Same.drew)); done)⟩
  have N_g2 : Hid (¬ ((1000 : Int) < gp)) := g2
  have f_g2 : decide ((1000 : Int) < gp) = false := decide_eq_false g2
  cases ha : rAct R.all se with
  | some q =>
    have EC : Hid (cd = 155) := (show cd = _ from ECD.out).trans (by simp [rCode, codeB, isO, eq_false (show ¬ (se < 0) by have h9 := N_s1.out; omega), eq_false (show ¬ ((n : Int) ≤ se) by have h9 := N_s2.out; omega), eq_false (show ¬ (gp < 0) by have h9 := N_g1.out; omega), eq_false (show ¬ ((1000 : Int) < gp) by have h9 := N_g2.out; omega), ha])
    have dq1 : decide ((0 : Int) ≤ (q : Int)) = true := decide_eq_true (by omega)
    have dq2 : (0 : Int) ≤ (q : Int) := by omega
    rw [show ix (some q) = (q : Int) from rfl]
    clear ha
    go_wp2_with fail
    go_ret
    exact ⟨by rw [show cd = 155 from EC.out]; rfl, (by (repeat (first | exact K0.out | apply Same.drewN | apply Same.drew)); done)⟩
  | none =>
    rw [show ix none = (-1 : Int) from rfl]
    by_cases b1 : 4096 ≤ L
    · have f_b : decide ((4096 : Int) ≤ (L : Int)) = true := decide_eq_true (by omega)
      have b1' := b1
      rw [show L = R.all.length from EL.out] at b1'
      have EC : Hid (cd = 71) := (show cd = _ from ECD.out).trans (by simp [rCode, codeB, isO, eq_false (show ¬ (se < 0) by have h9 := N_s1.out; omega), eq_false (show ¬ ((n : Int) ≤ se) by have h9 := N_s2.out; omega), eq_false (show ¬ (gp < 0) by have h9 := N_g1.out; omega), eq_false (show ¬ ((1000 : Int) < gp) by have h9 := N_g2.out; omega), ha, b1'])
      clear ha b1'
      go_wp2_with fail
      go_ret
      exact ⟨by rw [show cd = 71 from EC.out]; rfl, (by (repeat (first | exact K0.out | apply Same.drewN | apply Same.drew)); done)⟩
    have f_b : decide ((4096 : Int) ≤ (L : Int)) = false := decide_eq_false (by omega)
    have N_b1 : Hid (¬ (4096 ≤ R.all.length)) := by
      show ¬ (4096 ≤ R.all.length)
      rw [← show L = R.all.length from EL.out]
      exact b1
    by_cases z1 : 1099511627775 - gp < R.clock
    · have f_z : decide (1099511627775 - gp < R.clock) = true := decide_eq_true z1
      have EC : Hid (cd = 154) := (show cd = _ from ECD.out).trans (by simp [rCode, codeB, isO, eq_false (show ¬ (se < 0) by have h9 := N_s1.out; omega), eq_false (show ¬ ((n : Int) ≤ se) by have h9 := N_s2.out; omega), eq_false (show ¬ (gp < 0) by have h9 := N_g1.out; omega), eq_false (show ¬ ((1000 : Int) < gp) by have h9 := N_g2.out; omega), ha, eq_false (show ¬ (4096 ≤ R.all.length) by have h9 := N_b1.out; omega), z1])
      clear ha
      go_upto_region 21 with fail
      go_quiet (fail)
      go_wp2_with fail
      go_ret
      exact ⟨by rw [show cd = 154 from EC.out]; rfl, (by (repeat (first | exact K0.out | apply Same.drewN | apply Same.drew)); done)⟩
    have N_z1 : Hid (¬ (1099511627775 - gp < R.clock)) := z1
    have f_z : decide (1099511627775 - gp < R.clock) = false := decide_eq_false z1
    have EC : Hid (cd = 0) := (show cd = _ from ECD.out).trans (by simp [rCode, codeB, isO, eq_false (show ¬ (se < 0) by have h9 := N_s1.out; omega), eq_false (show ¬ ((n : Int) ≤ se) by have h9 := N_s2.out; omega), eq_false (show ¬ (gp < 0) by have h9 := N_g1.out; omega), eq_false (show ¬ ((1000 : Int) < gp) by have h9 := N_g2.out; omega), ha, eq_false (show ¬ (4096 ≤ R.all.length) by have h9 := N_b1.out; omega), eq_false (show ¬ (1099511627775 - gp < R.clock) by have h9 := N_z1.out; omega)])
    clear ha
    go_upto_region 21 with fail
    go_quiet (fail)
    go_wp2_with fail
    go_ret
    exact ⟨by rw [show cd = 0 from EC.out]; rfl, (by (repeat (first | exact K0.out | apply Same.drewN | apply Same.drew)); done)⟩
set_option maxRecDepth 100000 in
set_option maxHeartbeats 3200000 in
theorem refuse_2 {w : World} {rb n : Nat} {fl : Int} {R : Rr} {a : Option Addr} {cap : Nat} {ev : Value} (h : Rd w rb n fl R a cap ev) (hs : Sml R) (se gp : Int) (k v : ByteArray) (hk : k.size ≤ maxLen) (hv : v.size ≤ maxLen) : RfP w rb n R ⟨2, se, gp, k, v⟩ := by
  have HH : Hid (Rd w rb n fl R a cap ev) := h
  have hn := hs.n
  have hks : (k.size : Int) ≤ 9223372036854775807 := by unfold maxLen at hk; omega
  have hvs : (v.size : Int) ≤ 9223372036854775807 := by unfold maxLen at hv; omega
  have K0 : Hid (Kept w (w.alloc (stO ⟨2, se, gp, k, v⟩))) := (Same.refl _ w).alloc _
  have G0 : Hid _ := heap_new w (stO ⟨2, se, gp, k, v⟩)
  have HAC : Hid _ := ractive15 (h.on K0.out) hn se
  have HRD : Hid (Rd (w.alloc (stO ⟨2, se, gp, k, v⟩)) rb n fl R a cap ev) := h.on K0.out
  have HIN : Hid (∀ q, rAct R.all se = some q → q < R.all.length) := fun q hq => by
    obtain ⟨r, h1, -⟩ := rAct_in hq
    exact (List.getElem?_eq_some_iff.1 h1).1
  unfold RfP
  obtain ⟨cd, ecd⟩ : ∃ cd, cd = rCode n R ⟨2, se, gp, k, v⟩ := ⟨_, rfl⟩
  rw [← ecd]
  have ECD : Hid (cd = rCode n R ⟨2, se, gp, k, v⟩) := ecd
  unfold stA
  simp only
  clear h ecd hk hv
  go_enter Try.func35, Try.ntmps35
  go_upto_region 1 with fail
  generalize w.alloc (stO ⟨2, se, gp, k, v⟩) = W at *
  generalize w.heap.size = g at *
  obtain ⟨c0, c1, c2, c3, c4⟩ := st_cells G0.out
  have hg := lt_of_heap G0.out
  simp only at c0 c1 c2 c3 c4
  have m0 := HRD.out.c0
  have m2 := HRD.out.c2
  have m3 := HRD.out.c3
  have hrl := HRD.out.lt
  obtain ⟨L, eL⟩ : ∃ L, L = R.all.length := ⟨_, rfl⟩
  rw [← eL] at hn m3
  have EL : Hid (L = R.all.length) := eL
  clear eL
  go_wp2_with fail
  refine Calls.mono HAC.out ?_
  rintro r2 w2 ⟨rfl, e2⟩
  subst e2
  clear HAC
  by_cases s1 : se < 0
  · have f1 : decide (se < 0) = true := decide_eq_true s1
    have EC : Hid (cd = 152) := (show cd = _ from ECD.out).trans (by simp [rCode, codeB, s1])
    go_upto_region 5 with fail
    go_quiet (fail)
    go_wp2_with fail
    go_ret
    exact ⟨by rw [show cd = 152 from EC.out]; rfl, (by (repeat (first | exact K0.out | apply Same.drewN | apply Same.drew)); done)⟩
  have N_s1 : Hid (¬ (se < 0)) := s1
  have f1 : decide (se < 0) = false := decide_eq_false s1
  by_cases s2 : (n : Int) ≤ se
  · have f2 : decide ((n : Int) ≤ se) = true := decide_eq_true s2
    have EC : Hid (cd = 152) := (show cd = _ from ECD.out).trans (by simp [rCode, codeB, s2])
    go_upto_region 5 with fail
    go_quiet (fail)
    go_wp2_with fail
    go_ret
    exact ⟨by rw [show cd = 152 from EC.out]; rfl, (by (repeat (first | exact K0.out | apply Same.drewN | apply Same.drew)); done)⟩
  have N_s2 : Hid (¬ ((n : Int) ≤ se)) := s2
  have f2 : decide ((n : Int) ≤ se) = false := decide_eq_false s2
  go_upto_region 5 with fail
  go_quiet (fail)
  clear m0
  by_cases g1 : gp < 0
  · have f_g1 : decide (gp < 0) = true := decide_eq_true g1
    have EC : Hid (cd = 153) := (show cd = _ from ECD.out).trans (by simp [rCode, codeB, eq_false (show ¬ (se < 0) by have h9 := N_s1.out; omega), eq_false (show ¬ ((n : Int) ≤ se) by have h9 := N_s2.out; omega), g1])
    go_wp2_with fail
    go_ret
    exact ⟨by rw [show cd = 153 from EC.out]; rfl, (by (repeat (first | exact K0.out | apply Same.drewN | apply Same.drew)); done)⟩
  have N_g1 : Hid (¬ (gp < 0)) := g1
  have f_g1 : decide (gp < 0) = false := decide_eq_false g1
  by_cases g2 : (1000 : Int) < gp
  · have f_g2 : decide ((1000 : Int) < gp) = true := decide_eq_true g2
    have EC : Hid (cd = 153) := (show cd = _ from ECD.out).trans (by simp [rCode, codeB, eq_false (show ¬ (se < 0) by have h9 := N_s1.out; omega), eq_false (show ¬ ((n : Int) ≤ se) by have h9 := N_s2.out; omega), eq_false (show ¬ (gp < 0) by have h9 := N_g1.out; omega), g2])
    go_wp2_with fail
    go_ret
    exact ⟨by rw [show cd = 153 from EC.out]; rfl, (by (repeat (first | exact K0.out | apply Same.drewN | apply Same.drew)); done)⟩
  have N_g2 : Hid (¬ ((1000 : Int) < gp)) := g2
  have f_g2 : decide ((1000 : Int) < gp) = false := decide_eq_false g2
  by_cases k1 : k.size = 0
  · have f_k1 : ((k.size : Int) == 0) = true := by simp [k1]
    have f_k2 : k = ByteArray.empty := ByteArray.size_eq_zero_iff.1 k1
    have EC : Hid (cd = 130) := (show cd = _ from ECD.out).trans (by simp [rCode, codeB, isO, eq_false (show ¬ (se < 0) by have h9 := N_s1.out; omega), eq_false (show ¬ ((n : Int) ≤ se) by have h9 := N_s2.out; omega), eq_false (show ¬ (gp < 0) by have h9 := N_g1.out; omega), eq_false (show ¬ ((1000 : Int) < gp) by have h9 := N_g2.out; omega), k1])
    go_wp2_with fail
    go_ret
    exact ⟨by rw [show cd = 130 from EC.out]; rfl, (by (repeat (first | exact K0.out | apply Same.drewN | apply Same.drew)); done)⟩
  have N_k1 : Hid (¬ (k.size = 0)) := k1
  have f_k1 : ((k.size : Int) == 0) = false := by simp [k1]
  have f_k2 : ¬ k = ByteArray.empty := fun e9 => k1 (by rw [e9]; rfl)
  by_cases k2 : 8 < k.size
  · have f_k3 : decide ((8 : Int) < (k.size : Int)) = true := decide_eq_true (by omega)
    have f_k4 : (8 : Int) < (k.size : Int) := by omega
    have EC : Hid (cd = 130) := (show cd = _ from ECD.out).trans (by simp [rCode, codeB, isO, eq_false (show ¬ (se < 0) by have h9 := N_s1.out; omega), eq_false (show ¬ ((n : Int) ≤ se) by have h9 := N_s2.out; omega), eq_false (show ¬ (gp < 0) by have h9 := N_g1.out; omega), eq_false (show ¬ ((1000 : Int) < gp) by have h9 := N_g2.out; omega), eq_false (show ¬ (k.size = 0) by have h9 := N_k1.out; omega), k2])
    go_wp2_with fail
    go_ret
    exact ⟨by rw [show cd = 130 from EC.out]; rfl, (by (repeat (first | exact K0.out | apply Same.drewN | apply Same.drew)); done)⟩
  have N_k2 : Hid (¬ (8 < k.size)) := k2
  have f_k3 : decide ((8 : Int) < (k.size : Int)) = false := decide_eq_false (by omega)
  have f_k4 : ¬ (8 : Int) < (k.size : Int) := by omega
  cases ha : rAct R.all se with
  | none =>
    have EC : Hid (cd = 156) := (show cd = _ from ECD.out).trans (by simp [rCode, codeB, isO, eq_false (show ¬ (se < 0) by have h9 := N_s1.out; omega), eq_false (show ¬ ((n : Int) ≤ se) by have h9 := N_s2.out; omega), eq_false (show ¬ (gp < 0) by have h9 := N_g1.out; omega), eq_false (show ¬ ((1000 : Int) < gp) by have h9 := N_g2.out; omega), eq_false (show ¬ (k.size = 0) by have h9 := N_k1.out; omega), eq_false (show ¬ (8 < k.size) by have h9 := N_k2.out; omega), ha])
    rw [show ix none = (-1 : Int) from rfl]
    clear ha
    go_wp2_with fail
    go_ret
    exact ⟨by rw [show cd = 156 from EC.out]; rfl, (by (repeat (first | exact K0.out | apply Same.drewN | apply Same.drew)); done)⟩
  | some q =>
    have hq := HIN.out q ha
    have dq1 : decide ((q : Int) < 0) = false := decide_eq_false (by omega)
    have dq2 : ¬ ((q : Int) < 0) := by omega
    have dq4 : (0 : Int) ≤ (q : Int) := by omega
    have dq3 : (q : Int) < (L : Int) := by have h9 : L = R.all.length := EL.out; omega
    rw [show ix (some q) = (q : Int) from rfl]
    obtain ⟨b, off, oa, oc, ta, tc, rfl, hb, hR⟩ := HRD.out.run q _ (gR_at hq)
    have p7 := hR.c7
    have hol := (hs.o _ (List.mem_of_getElem? (gR_at hq))).1
    have HO1 : Hid (opsR R se = (gR R.all q).t.ops.length) := by
      show opsR R se = _
      unfold opsR
      rw [ha]
    clear hR
    generalize (gR R.all q).t.ops.length = ol at *
    by_cases o1 : 16 ≤ ol
    · have f_o : decide ((16 : Int) ≤ (ol : Int)) = true := decide_eq_true (by omega)
      have f_o2 : (16 : Int) ≤ (ol : Int) := by omega
      have o1' : 16 ≤ opsR R se := by rw [show opsR R se = _ from HO1.out]; exact o1
      have EC : Hid (cd = 63) := (show cd = _ from ECD.out).trans (by simp [rCode, codeB, isO, eq_false (show ¬ (se < 0) by have h9 := N_s1.out; omega), eq_false (show ¬ ((n : Int) ≤ se) by have h9 := N_s2.out; omega), eq_false (show ¬ (gp < 0) by have h9 := N_g1.out; omega), eq_false (show ¬ ((1000 : Int) < gp) by have h9 := N_g2.out; omega), eq_false (show ¬ (k.size = 0) by have h9 := N_k1.out; omega), eq_false (show ¬ (8 < k.size) by have h9 := N_k2.out; omega), ha, o1'])
      clear ha o1'
      go_wp2_with fail
      go_ret
      exact ⟨by rw [show cd = 63 from EC.out]; rfl, (by (repeat (first | exact K0.out | apply Same.drewN | apply Same.drew)); done)⟩
    have f_o : decide ((16 : Int) ≤ (ol : Int)) = false := decide_eq_false (by omega)
    have f_o2 : ¬ (16 : Int) ≤ (ol : Int) := by omega
    have N_o1 : Hid (¬ (16 ≤ opsR R se)) := by
      show ¬ (16 ≤ opsR R se)
      rw [show opsR R se = _ from HO1.out]
      exact o1
    by_cases z1 : 1099511627775 - gp < R.clock
    · have f_z : decide (1099511627775 - gp < R.clock) = true := decide_eq_true z1
      have EC : Hid (cd = 154) := (show cd = _ from ECD.out).trans (by simp [rCode, codeB, isO, eq_false (show ¬ (se < 0) by have h9 := N_s1.out; omega), eq_false (show ¬ ((n : Int) ≤ se) by have h9 := N_s2.out; omega), eq_false (show ¬ (gp < 0) by have h9 := N_g1.out; omega), eq_false (show ¬ ((1000 : Int) < gp) by have h9 := N_g2.out; omega), eq_false (show ¬ (k.size = 0) by have h9 := N_k1.out; omega), eq_false (show ¬ (8 < k.size) by have h9 := N_k2.out; omega), ha, eq_false (show ¬ (16 ≤ opsR R se) by have h9 := N_o1.out; omega), z1])
      clear ha
      go_upto_region 21 with fail
      go_quiet (fail)
      go_wp2_with fail
      go_ret
      exact ⟨by rw [show cd = 154 from EC.out]; rfl, (by (repeat (first | exact K0.out | apply Same.drewN | apply Same.drew)); done)⟩
    have N_z1 : Hid (¬ (1099511627775 - gp < R.clock)) := z1
    have f_z : decide (1099511627775 - gp < R.clock) = false := decide_eq_false z1
    have EC : Hid (cd = 0) := (show cd = _ from ECD.out).trans (by simp [rCode, codeB, isO, eq_false (show ¬ (se < 0) by have h9 := N_s1.out; omega), eq_false (show ¬ ((n : Int) ≤ se) by have h9 := N_s2.out; omega), eq_false (show ¬ (gp < 0) by have h9 := N_g1.out; omega), eq_false (show ¬ ((1000 : Int) < gp) by have h9 := N_g2.out; omega), eq_false (show ¬ (k.size = 0) by have h9 := N_k1.out; omega), eq_false (show ¬ (8 < k.size) by have h9 := N_k2.out; omega), ha, eq_false (show ¬ (16 ≤ opsR R se) by have h9 := N_o1.out; omega), eq_false (show ¬ (1099511627775 - gp < R.clock) by have h9 := N_z1.out; omega)])
    clear ha
    go_upto_region 21 with fail
    go_quiet (fail)
    go_wp2_with fail
    go_ret
    exact ⟨by rw [show cd = 0 from EC.out]; rfl, (by (repeat (first | exact K0.out | apply Same.drewN | apply Same.drew)); done)⟩
set_option maxRecDepth 100000 in
set_option maxHeartbeats 3200000 in
theorem refuse_3 {w : World} {rb n : Nat} {fl : Int} {R : Rr} {a : Option Addr} {cap : Nat} {ev : Value} (h : Rd w rb n fl R a cap ev) (hs : Sml R) (se gp : Int) (k v : ByteArray) (hk : k.size ≤ maxLen) (hv : v.size ≤ maxLen) : RfP w rb n R ⟨3, se, gp, k, v⟩ := by
  have HH : Hid (Rd w rb n fl R a cap ev) := h
  have hn := hs.n
  have hks : (k.size : Int) ≤ 9223372036854775807 := by unfold maxLen at hk; omega
  have hvs : (v.size : Int) ≤ 9223372036854775807 := by unfold maxLen at hv; omega
  have K0 : Hid (Kept w (w.alloc (stO ⟨3, se, gp, k, v⟩))) := (Same.refl _ w).alloc _
  have G0 : Hid _ := heap_new w (stO ⟨3, se, gp, k, v⟩)
  have HAC : Hid _ := ractive15 (h.on K0.out) hn se
  have HRD : Hid (Rd (w.alloc (stO ⟨3, se, gp, k, v⟩)) rb n fl R a cap ev) := h.on K0.out
  have HIN : Hid (∀ q, rAct R.all se = some q → q < R.all.length) := fun q hq => by
    obtain ⟨r, h1, -⟩ := rAct_in hq
    exact (List.getElem?_eq_some_iff.1 h1).1
  unfold RfP
  obtain ⟨cd, ecd⟩ : ∃ cd, cd = rCode n R ⟨3, se, gp, k, v⟩ := ⟨_, rfl⟩
  rw [← ecd]
  have ECD : Hid (cd = rCode n R ⟨3, se, gp, k, v⟩) := ecd
  unfold stA
  simp only
  clear h ecd hk hv
  go_enter Try.func35, Try.ntmps35
  go_upto_region 1 with fail
  generalize w.alloc (stO ⟨3, se, gp, k, v⟩) = W at *
  generalize w.heap.size = g at *
  obtain ⟨c0, c1, c2, c3, c4⟩ := st_cells G0.out
  have hg := lt_of_heap G0.out
  simp only at c0 c1 c2 c3 c4
  have m0 := HRD.out.c0
  have m2 := HRD.out.c2
  have m3 := HRD.out.c3
  have hrl := HRD.out.lt
  obtain ⟨L, eL⟩ : ∃ L, L = R.all.length := ⟨_, rfl⟩
  rw [← eL] at hn m3
  have EL : Hid (L = R.all.length) := eL
  clear eL
  go_wp2_with fail
  refine Calls.mono HAC.out ?_
  rintro r2 w2 ⟨rfl, e2⟩
  subst e2
  clear HAC
  by_cases s1 : se < 0
  · have f1 : decide (se < 0) = true := decide_eq_true s1
    have EC : Hid (cd = 152) := (show cd = _ from ECD.out).trans (by simp [rCode, codeB, s1])
    go_upto_region 5 with fail
    go_quiet (fail)
    go_wp2_with fail
    go_ret
    exact ⟨by rw [show cd = 152 from EC.out]; rfl, (by (repeat (first | exact K0.out | apply Same.drewN | apply Same.drew)); done)⟩
  have N_s1 : Hid (¬ (se < 0)) := s1
  have f1 : decide (se < 0) = false := decide_eq_false s1
  by_cases s2 : (n : Int) ≤ se
  · have f2 : decide ((n : Int) ≤ se) = true := decide_eq_true s2
    have EC : Hid (cd = 152) := (show cd = _ from ECD.out).trans (by simp [rCode, codeB, s2])
    go_upto_region 5 with fail
    go_quiet (fail)
    go_wp2_with fail
    go_ret
    exact ⟨by rw [show cd = 152 from EC.out]; rfl, (by (repeat (first | exact K0.out | apply Same.drewN | apply Same.drew)); done)⟩
  have N_s2 : Hid (¬ ((n : Int) ≤ se)) := s2
  have f2 : decide ((n : Int) ≤ se) = false := decide_eq_false s2
  go_upto_region 5 with fail
  go_quiet (fail)
  clear m0
  by_cases g1 : gp < 0
  · have f_g1 : decide (gp < 0) = true := decide_eq_true g1
    have EC : Hid (cd = 153) := (show cd = _ from ECD.out).trans (by simp [rCode, codeB, eq_false (show ¬ (se < 0) by have h9 := N_s1.out; omega), eq_false (show ¬ ((n : Int) ≤ se) by have h9 := N_s2.out; omega), g1])
    go_wp2_with fail
    go_ret
    exact ⟨by rw [show cd = 153 from EC.out]; rfl, (by (repeat (first | exact K0.out | apply Same.drewN | apply Same.drew)); done)⟩
  have N_g1 : Hid (¬ (gp < 0)) := g1
  have f_g1 : decide (gp < 0) = false := decide_eq_false g1
  by_cases g2 : (1000 : Int) < gp
  · have f_g2 : decide ((1000 : Int) < gp) = true := decide_eq_true g2
    have EC : Hid (cd = 153) := (show cd = _ from ECD.out).trans (by simp [rCode, codeB, eq_false (show ¬ (se < 0) by have h9 := N_s1.out; omega), eq_false (show ¬ ((n : Int) ≤ se) by have h9 := N_s2.out; omega), eq_false (show ¬ (gp < 0) by have h9 := N_g1.out; omega), g2])
    go_wp2_with fail
    go_ret
    exact ⟨by rw [show cd = 153 from EC.out]; rfl, (by (repeat (first | exact K0.out | apply Same.drewN | apply Same.drew)); done)⟩
  have N_g2 : Hid (¬ ((1000 : Int) < gp)) := g2
  have f_g2 : decide ((1000 : Int) < gp) = false := decide_eq_false g2
  by_cases k1 : k.size = 0
  · have f_k1 : ((k.size : Int) == 0) = true := by simp [k1]
    have f_k2 : k = ByteArray.empty := ByteArray.size_eq_zero_iff.1 k1
    have EC : Hid (cd = 130) := (show cd = _ from ECD.out).trans (by simp [rCode, codeB, isO, eq_false (show ¬ (se < 0) by have h9 := N_s1.out; omega), eq_false (show ¬ ((n : Int) ≤ se) by have h9 := N_s2.out; omega), eq_false (show ¬ (gp < 0) by have h9 := N_g1.out; omega), eq_false (show ¬ ((1000 : Int) < gp) by have h9 := N_g2.out; omega), k1])
    go_wp2_with fail
    go_ret
    exact ⟨by rw [show cd = 130 from EC.out]; rfl, (by (repeat (first | exact K0.out | apply Same.drewN | apply Same.drew)); done)⟩
  have N_k1 : Hid (¬ (k.size = 0)) := k1
  have f_k1 : ((k.size : Int) == 0) = false := by simp [k1]
  have f_k2 : ¬ k = ByteArray.empty := fun e9 => k1 (by rw [e9]; rfl)
  by_cases k2 : 8 < k.size
  · have f_k3 : decide ((8 : Int) < (k.size : Int)) = true := decide_eq_true (by omega)
    have f_k4 : (8 : Int) < (k.size : Int) := by omega
    have EC : Hid (cd = 130) := (show cd = _ from ECD.out).trans (by simp [rCode, codeB, isO, eq_false (show ¬ (se < 0) by have h9 := N_s1.out; omega), eq_false (show ¬ ((n : Int) ≤ se) by have h9 := N_s2.out; omega), eq_false (show ¬ (gp < 0) by have h9 := N_g1.out; omega), eq_false (show ¬ ((1000 : Int) < gp) by have h9 := N_g2.out; omega), eq_false (show ¬ (k.size = 0) by have h9 := N_k1.out; omega), k2])
    go_wp2_with fail
    go_ret
    exact ⟨by rw [show cd = 130 from EC.out]; rfl, (by (repeat (first | exact K0.out | apply Same.drewN | apply Same.drew)); done)⟩
  have N_k2 : Hid (¬ (8 < k.size)) := k2
  have f_k3 : decide ((8 : Int) < (k.size : Int)) = false := decide_eq_false (by omega)
  have f_k4 : ¬ (8 : Int) < (k.size : Int) := by omega
  by_cases v1 : 16 < v.size
  · have f_v3 : decide ((16 : Int) < (v.size : Int)) = true := decide_eq_true (by omega)
    have f_v4 : (16 : Int) < (v.size : Int) := by omega
    have EC : Hid (cd = 157) := (show cd = _ from ECD.out).trans (by simp [rCode, codeB, isO, eq_false (show ¬ (se < 0) by have h9 := N_s1.out; omega), eq_false (show ¬ ((n : Int) ≤ se) by have h9 := N_s2.out; omega), eq_false (show ¬ (gp < 0) by have h9 := N_g1.out; omega), eq_false (show ¬ ((1000 : Int) < gp) by have h9 := N_g2.out; omega), eq_false (show ¬ (k.size = 0) by have h9 := N_k1.out; omega), eq_false (show ¬ (8 < k.size) by have h9 := N_k2.out; omega), v1])
    go_wp2_with fail
    go_ret
    exact ⟨by rw [show cd = 157 from EC.out]; rfl, (by (repeat (first | exact K0.out | apply Same.drewN | apply Same.drew)); done)⟩
  have N_v1 : Hid (¬ (16 < v.size)) := v1
  have f_v3 : decide ((16 : Int) < (v.size : Int)) = false := decide_eq_false (by omega)
  have f_v4 : ¬ (16 : Int) < (v.size : Int) := by omega
  cases ha : rAct R.all se with
  | none =>
    have EC : Hid (cd = 156) := (show cd = _ from ECD.out).trans (by simp [rCode, codeB, isO, eq_false (show ¬ (se < 0) by have h9 := N_s1.out; omega), eq_false (show ¬ ((n : Int) ≤ se) by have h9 := N_s2.out; omega), eq_false (show ¬ (gp < 0) by have h9 := N_g1.out; omega), eq_false (show ¬ ((1000 : Int) < gp) by have h9 := N_g2.out; omega), eq_false (show ¬ (k.size = 0) by have h9 := N_k1.out; omega), eq_false (show ¬ (8 < k.size) by have h9 := N_k2.out; omega), eq_false (show ¬ (16 < v.size) by have h9 := N_v1.out; omega), ha])
    rw [show ix none = (-1 : Int) from rfl]
    clear ha
    go_wp2_with fail
    go_ret
    exact ⟨by rw [show cd = 156 from EC.out]; rfl, (by (repeat (first | exact K0.out | apply Same.drewN | apply Same.drew)); done)⟩
  | some q =>
    have hq := HIN.out q ha
    have dq1 : decide ((q : Int) < 0) = false := decide_eq_false (by omega)
    have dq2 : ¬ ((q : Int) < 0) := by omega
    have dq4 : (0 : Int) ≤ (q : Int) := by omega
    have dq3 : (q : Int) < (L : Int) := by have h9 : L = R.all.length := EL.out; omega
    rw [show ix (some q) = (q : Int) from rfl]
    obtain ⟨b, off, oa, oc, ta, tc, rfl, hb, hR⟩ := HRD.out.run q _ (gR_at hq)
    have p7 := hR.c7
    have hol := (hs.o _ (List.mem_of_getElem? (gR_at hq))).1
    have HO1 : Hid (opsR R se = (gR R.all q).t.ops.length) := by
      show opsR R se = _
      unfold opsR
      rw [ha]
    clear hR
    generalize (gR R.all q).t.ops.length = ol at *
    by_cases o1 : 16 ≤ ol
    · have f_o : decide ((16 : Int) ≤ (ol : Int)) = true := decide_eq_true (by omega)
      have f_o2 : (16 : Int) ≤ (ol : Int) := by omega
      have o1' : 16 ≤ opsR R se := by rw [show opsR R se = _ from HO1.out]; exact o1
      have EC : Hid (cd = 63) := (show cd = _ from ECD.out).trans (by simp [rCode, codeB, isO, eq_false (show ¬ (se < 0) by have h9 := N_s1.out; omega), eq_false (show ¬ ((n : Int) ≤ se) by have h9 := N_s2.out; omega), eq_false (show ¬ (gp < 0) by have h9 := N_g1.out; omega), eq_false (show ¬ ((1000 : Int) < gp) by have h9 := N_g2.out; omega), eq_false (show ¬ (k.size = 0) by have h9 := N_k1.out; omega), eq_false (show ¬ (8 < k.size) by have h9 := N_k2.out; omega), eq_false (show ¬ (16 < v.size) by have h9 := N_v1.out; omega), ha, o1'])
      clear ha o1'
      go_wp2_with fail
      go_ret
      exact ⟨by rw [show cd = 63 from EC.out]; rfl, (by (repeat (first | exact K0.out | apply Same.drewN | apply Same.drew)); done)⟩
    have f_o : decide ((16 : Int) ≤ (ol : Int)) = false := decide_eq_false (by omega)
    have f_o2 : ¬ (16 : Int) ≤ (ol : Int) := by omega
    have N_o1 : Hid (¬ (16 ≤ opsR R se)) := by
      show ¬ (16 ≤ opsR R se)
      rw [show opsR R se = _ from HO1.out]
      exact o1
    by_cases z1 : 1099511627775 - gp < R.clock
    · have f_z : decide (1099511627775 - gp < R.clock) = true := decide_eq_true z1
      have EC : Hid (cd = 154) := (show cd = _ from ECD.out).trans (by simp [rCode, codeB, isO, eq_false (show ¬ (se < 0) by have h9 := N_s1.out; omega), eq_false (show ¬ ((n : Int) ≤ se) by have h9 := N_s2.out; omega), eq_false (show ¬ (gp < 0) by have h9 := N_g1.out; omega), eq_false (show ¬ ((1000 : Int) < gp) by have h9 := N_g2.out; omega), eq_false (show ¬ (k.size = 0) by have h9 := N_k1.out; omega), eq_false (show ¬ (8 < k.size) by have h9 := N_k2.out; omega), eq_false (show ¬ (16 < v.size) by have h9 := N_v1.out; omega), ha, eq_false (show ¬ (16 ≤ opsR R se) by have h9 := N_o1.out; omega), z1])
      clear ha
      go_upto_region 21 with fail
      go_quiet (fail)
      go_wp2_with fail
      go_ret
      exact ⟨by rw [show cd = 154 from EC.out]; rfl, (by (repeat (first | exact K0.out | apply Same.drewN | apply Same.drew)); done)⟩
    have N_z1 : Hid (¬ (1099511627775 - gp < R.clock)) := z1
    have f_z : decide (1099511627775 - gp < R.clock) = false := decide_eq_false z1
    have EC : Hid (cd = 0) := (show cd = _ from ECD.out).trans (by simp [rCode, codeB, isO, eq_false (show ¬ (se < 0) by have h9 := N_s1.out; omega), eq_false (show ¬ ((n : Int) ≤ se) by have h9 := N_s2.out; omega), eq_false (show ¬ (gp < 0) by have h9 := N_g1.out; omega), eq_false (show ¬ ((1000 : Int) < gp) by have h9 := N_g2.out; omega), eq_false (show ¬ (k.size = 0) by have h9 := N_k1.out; omega), eq_false (show ¬ (8 < k.size) by have h9 := N_k2.out; omega), eq_false (show ¬ (16 < v.size) by have h9 := N_v1.out; omega), ha, eq_false (show ¬ (16 ≤ opsR R se) by have h9 := N_o1.out; omega), eq_false (show ¬ (1099511627775 - gp < R.clock) by have h9 := N_z1.out; omega)])
    clear ha
    go_upto_region 21 with fail
    go_quiet (fail)
    go_wp2_with fail
    go_ret
    exact ⟨by rw [show cd = 0 from EC.out]; rfl, (by (repeat (first | exact K0.out | apply Same.drewN | apply Same.drew)); done)⟩
set_option maxRecDepth 100000 in
set_option maxHeartbeats 3200000 in
theorem refuse_4 {w : World} {rb n : Nat} {fl : Int} {R : Rr} {a : Option Addr} {cap : Nat} {ev : Value} (h : Rd w rb n fl R a cap ev) (hs : Sml R) (se gp : Int) (k v : ByteArray) (hk : k.size ≤ maxLen) (hv : v.size ≤ maxLen) : RfP w rb n R ⟨4, se, gp, k, v⟩ := by
  have HH : Hid (Rd w rb n fl R a cap ev) := h
  have hn := hs.n
  have hks : (k.size : Int) ≤ 9223372036854775807 := by unfold maxLen at hk; omega
  have hvs : (v.size : Int) ≤ 9223372036854775807 := by unfold maxLen at hv; omega
  have K0 : Hid (Kept w (w.alloc (stO ⟨4, se, gp, k, v⟩))) := (Same.refl _ w).alloc _
  have G0 : Hid _ := heap_new w (stO ⟨4, se, gp, k, v⟩)
  have HAC : Hid _ := ractive15 (h.on K0.out) hn se
  have HRD : Hid (Rd (w.alloc (stO ⟨4, se, gp, k, v⟩)) rb n fl R a cap ev) := h.on K0.out
  have HIN : Hid (∀ q, rAct R.all se = some q → q < R.all.length) := fun q hq => by
    obtain ⟨r, h1, -⟩ := rAct_in hq
    exact (List.getElem?_eq_some_iff.1 h1).1
  unfold RfP
  obtain ⟨cd, ecd⟩ : ∃ cd, cd = rCode n R ⟨4, se, gp, k, v⟩ := ⟨_, rfl⟩
  rw [← ecd]
  have ECD : Hid (cd = rCode n R ⟨4, se, gp, k, v⟩) := ecd
  unfold stA
  simp only
  clear h ecd hk hv
  go_enter Try.func35, Try.ntmps35
  go_upto_region 1 with fail
  generalize w.alloc (stO ⟨4, se, gp, k, v⟩) = W at *
  generalize w.heap.size = g at *
  obtain ⟨c0, c1, c2, c3, c4⟩ := st_cells G0.out
  have hg := lt_of_heap G0.out
  simp only at c0 c1 c2 c3 c4
  have m0 := HRD.out.c0
  have m2 := HRD.out.c2
  have m3 := HRD.out.c3
  have hrl := HRD.out.lt
  obtain ⟨L, eL⟩ : ∃ L, L = R.all.length := ⟨_, rfl⟩
  rw [← eL] at hn m3
  have EL : Hid (L = R.all.length) := eL
  clear eL
  go_wp2_with fail
  refine Calls.mono HAC.out ?_
  rintro r2 w2 ⟨rfl, e2⟩
  subst e2
  clear HAC
  by_cases s1 : se < 0
  · have f1 : decide (se < 0) = true := decide_eq_true s1
    have EC : Hid (cd = 152) := (show cd = _ from ECD.out).trans (by simp [rCode, codeB, s1])
    go_upto_region 5 with fail
    go_quiet (fail)
    go_wp2_with fail
    go_ret
    exact ⟨by rw [show cd = 152 from EC.out]; rfl, (by (repeat (first | exact K0.out | apply Same.drewN | apply Same.drew)); done)⟩
  have N_s1 : Hid (¬ (se < 0)) := s1
  have f1 : decide (se < 0) = false := decide_eq_false s1
  by_cases s2 : (n : Int) ≤ se
  · have f2 : decide ((n : Int) ≤ se) = true := decide_eq_true s2
    have EC : Hid (cd = 152) := (show cd = _ from ECD.out).trans (by simp [rCode, codeB, s2])
    go_upto_region 5 with fail
    go_quiet (fail)
    go_wp2_with fail
    go_ret
    exact ⟨by rw [show cd = 152 from EC.out]; rfl, (by (repeat (first | exact K0.out | apply Same.drewN | apply Same.drew)); done)⟩
  have N_s2 : Hid (¬ ((n : Int) ≤ se)) := s2
  have f2 : decide ((n : Int) ≤ se) = false := decide_eq_false s2
  go_upto_region 5 with fail
  go_quiet (fail)
  clear m0
  by_cases g1 : gp < 0
  · have f_g1 : decide (gp < 0) = true := decide_eq_true g1
    have EC : Hid (cd = 153) := (show cd = _ from ECD.out).trans (by simp [rCode, codeB, eq_false (show ¬ (se < 0) by have h9 := N_s1.out; omega), eq_false (show ¬ ((n : Int) ≤ se) by have h9 := N_s2.out; omega), g1])
    go_wp2_with fail
    go_ret
    exact ⟨by rw [show cd = 153 from EC.out]; rfl, (by (repeat (first | exact K0.out | apply Same.drewN | apply Same.drew)); done)⟩
  have N_g1 : Hid (¬ (gp < 0)) := g1
  have f_g1 : decide (gp < 0) = false := decide_eq_false g1
  by_cases g2 : (1000 : Int) < gp
  · have f_g2 : decide ((1000 : Int) < gp) = true := decide_eq_true g2
    have EC : Hid (cd = 153) := (show cd = _ from ECD.out).trans (by simp [rCode, codeB, eq_false (show ¬ (se < 0) by have h9 := N_s1.out; omega), eq_false (show ¬ ((n : Int) ≤ se) by have h9 := N_s2.out; omega), eq_false (show ¬ (gp < 0) by have h9 := N_g1.out; omega), g2])
    go_wp2_with fail
    go_ret
    exact ⟨by rw [show cd = 153 from EC.out]; rfl, (by (repeat (first | exact K0.out | apply Same.drewN | apply Same.drew)); done)⟩
  have N_g2 : Hid (¬ ((1000 : Int) < gp)) := g2
  have f_g2 : decide ((1000 : Int) < gp) = false := decide_eq_false g2
  by_cases k1 : k.size = 0
  · have f_k1 : ((k.size : Int) == 0) = true := by simp [k1]
    have f_k2 : k = ByteArray.empty := ByteArray.size_eq_zero_iff.1 k1
    have EC : Hid (cd = 130) := (show cd = _ from ECD.out).trans (by simp [rCode, codeB, isO, eq_false (show ¬ (se < 0) by have h9 := N_s1.out; omega), eq_false (show ¬ ((n : Int) ≤ se) by have h9 := N_s2.out; omega), eq_false (show ¬ (gp < 0) by have h9 := N_g1.out; omega), eq_false (show ¬ ((1000 : Int) < gp) by have h9 := N_g2.out; omega), k1])
    go_wp2_with fail
    go_ret
    exact ⟨by rw [show cd = 130 from EC.out]; rfl, (by (repeat (first | exact K0.out | apply Same.drewN | apply Same.drew)); done)⟩
  have N_k1 : Hid (¬ (k.size = 0)) := k1
  have f_k1 : ((k.size : Int) == 0) = false := by simp [k1]
  have f_k2 : ¬ k = ByteArray.empty := fun e9 => k1 (by rw [e9]; rfl)
  by_cases k2 : 8 < k.size
  · have f_k3 : decide ((8 : Int) < (k.size : Int)) = true := decide_eq_true (by omega)
    have f_k4 : (8 : Int) < (k.size : Int) := by omega
    have EC : Hid (cd = 130) := (show cd = _ from ECD.out).trans (by simp [rCode, codeB, isO, eq_false (show ¬ (se < 0) by have h9 := N_s1.out; omega), eq_false (show ¬ ((n : Int) ≤ se) by have h9 := N_s2.out; omega), eq_false (show ¬ (gp < 0) by have h9 := N_g1.out; omega), eq_false (show ¬ ((1000 : Int) < gp) by have h9 := N_g2.out; omega), eq_false (show ¬ (k.size = 0) by have h9 := N_k1.out; omega), k2])
    go_wp2_with fail
    go_ret
    exact ⟨by rw [show cd = 130 from EC.out]; rfl, (by (repeat (first | exact K0.out | apply Same.drewN | apply Same.drew)); done)⟩
  have N_k2 : Hid (¬ (8 < k.size)) := k2
  have f_k3 : decide ((8 : Int) < (k.size : Int)) = false := decide_eq_false (by omega)
  have f_k4 : ¬ (8 : Int) < (k.size : Int) := by omega
  cases ha : rAct R.all se with
  | none =>
    have EC : Hid (cd = 156) := (show cd = _ from ECD.out).trans (by simp [rCode, codeB, isO, eq_false (show ¬ (se < 0) by have h9 := N_s1.out; omega), eq_false (show ¬ ((n : Int) ≤ se) by have h9 := N_s2.out; omega), eq_false (show ¬ (gp < 0) by have h9 := N_g1.out; omega), eq_false (show ¬ ((1000 : Int) < gp) by have h9 := N_g2.out; omega), eq_false (show ¬ (k.size = 0) by have h9 := N_k1.out; omega), eq_false (show ¬ (8 < k.size) by have h9 := N_k2.out; omega), ha])
    rw [show ix none = (-1 : Int) from rfl]
    clear ha
    go_wp2_with fail
    go_ret
    exact ⟨by rw [show cd = 156 from EC.out]; rfl, (by (repeat (first | exact K0.out | apply Same.drewN | apply Same.drew)); done)⟩
  | some q =>
    have hq := HIN.out q ha
    have dq1 : decide ((q : Int) < 0) = false := decide_eq_false (by omega)
    have dq2 : ¬ ((q : Int) < 0) := by omega
    have dq4 : (0 : Int) ≤ (q : Int) := by omega
    have dq3 : (q : Int) < (L : Int) := by have h9 : L = R.all.length := EL.out; omega
    rw [show ix (some q) = (q : Int) from rfl]
    obtain ⟨b, off, oa, oc, ta, tc, rfl, hb, hR⟩ := HRD.out.run q _ (gR_at hq)
    have p7 := hR.c7
    have hol := (hs.o _ (List.mem_of_getElem? (gR_at hq))).1
    have HO1 : Hid (opsR R se = (gR R.all q).t.ops.length) := by
      show opsR R se = _
      unfold opsR
      rw [ha]
    clear hR
    generalize (gR R.all q).t.ops.length = ol at *
    by_cases o1 : 16 ≤ ol
    · have f_o : decide ((16 : Int) ≤ (ol : Int)) = true := decide_eq_true (by omega)
      have f_o2 : (16 : Int) ≤ (ol : Int) := by omega
      have o1' : 16 ≤ opsR R se := by rw [show opsR R se = _ from HO1.out]; exact o1
      have EC : Hid (cd = 63) := (show cd = _ from ECD.out).trans (by simp [rCode, codeB, isO, eq_false (show ¬ (se < 0) by have h9 := N_s1.out; omega), eq_false (show ¬ ((n : Int) ≤ se) by have h9 := N_s2.out; omega), eq_false (show ¬ (gp < 0) by have h9 := N_g1.out; omega), eq_false (show ¬ ((1000 : Int) < gp) by have h9 := N_g2.out; omega), eq_false (show ¬ (k.size = 0) by have h9 := N_k1.out; omega), eq_false (show ¬ (8 < k.size) by have h9 := N_k2.out; omega), ha, o1'])
      clear ha o1'
      go_wp2_with fail
      go_ret
      exact ⟨by rw [show cd = 63 from EC.out]; rfl, (by (repeat (first | exact K0.out | apply Same.drewN | apply Same.drew)); done)⟩
    have f_o : decide ((16 : Int) ≤ (ol : Int)) = false := decide_eq_false (by omega)
    have f_o2 : ¬ (16 : Int) ≤ (ol : Int) := by omega
    have N_o1 : Hid (¬ (16 ≤ opsR R se)) := by
      show ¬ (16 ≤ opsR R se)
      rw [show opsR R se = _ from HO1.out]
      exact o1
    by_cases z1 : 1099511627775 - gp < R.clock
    · have f_z : decide (1099511627775 - gp < R.clock) = true := decide_eq_true z1
      have EC : Hid (cd = 154) := (show cd = _ from ECD.out).trans (by simp [rCode, codeB, isO, eq_false (show ¬ (se < 0) by have h9 := N_s1.out; omega), eq_false (show ¬ ((n : Int) ≤ se) by have h9 := N_s2.out; omega), eq_false (show ¬ (gp < 0) by have h9 := N_g1.out; omega), eq_false (show ¬ ((1000 : Int) < gp) by have h9 := N_g2.out; omega), eq_false (show ¬ (k.size = 0) by have h9 := N_k1.out; omega), eq_false (show ¬ (8 < k.size) by have h9 := N_k2.out; omega), ha, eq_false (show ¬ (16 ≤ opsR R se) by have h9 := N_o1.out; omega), z1])
      clear ha
      go_upto_region 21 with fail
      go_quiet (fail)
      go_wp2_with fail
      go_ret
      exact ⟨by rw [show cd = 154 from EC.out]; rfl, (by (repeat (first | exact K0.out | apply Same.drewN | apply Same.drew)); done)⟩
    have N_z1 : Hid (¬ (1099511627775 - gp < R.clock)) := z1
    have f_z : decide (1099511627775 - gp < R.clock) = false := decide_eq_false z1
    have EC : Hid (cd = 0) := (show cd = _ from ECD.out).trans (by simp [rCode, codeB, isO, eq_false (show ¬ (se < 0) by have h9 := N_s1.out; omega), eq_false (show ¬ ((n : Int) ≤ se) by have h9 := N_s2.out; omega), eq_false (show ¬ (gp < 0) by have h9 := N_g1.out; omega), eq_false (show ¬ ((1000 : Int) < gp) by have h9 := N_g2.out; omega), eq_false (show ¬ (k.size = 0) by have h9 := N_k1.out; omega), eq_false (show ¬ (8 < k.size) by have h9 := N_k2.out; omega), ha, eq_false (show ¬ (16 ≤ opsR R se) by have h9 := N_o1.out; omega), eq_false (show ¬ (1099511627775 - gp < R.clock) by have h9 := N_z1.out; omega)])
    clear ha
    go_upto_region 21 with fail
    go_quiet (fail)
    go_wp2_with fail
    go_ret
    exact ⟨by rw [show cd = 0 from EC.out]; rfl, (by (repeat (first | exact K0.out | apply Same.drewN | apply Same.drew)); done)⟩
set_option maxRecDepth 100000 in
set_option maxHeartbeats 3200000 in
theorem refuse_5 {w : World} {rb n : Nat} {fl : Int} {R : Rr} {a : Option Addr} {cap : Nat} {ev : Value} (h : Rd w rb n fl R a cap ev) (hs : Sml R) (se gp : Int) (k v : ByteArray) (hk : k.size ≤ maxLen) (hv : v.size ≤ maxLen) : RfP w rb n R ⟨5, se, gp, k, v⟩ := by
  have HH : Hid (Rd w rb n fl R a cap ev) := h
  have hn := hs.n
  have hks : (k.size : Int) ≤ 9223372036854775807 := by unfold maxLen at hk; omega
  have hvs : (v.size : Int) ≤ 9223372036854775807 := by unfold maxLen at hv; omega
  have K0 : Hid (Kept w (w.alloc (stO ⟨5, se, gp, k, v⟩))) := (Same.refl _ w).alloc _
  have G0 : Hid _ := heap_new w (stO ⟨5, se, gp, k, v⟩)
  have HAC : Hid _ := ractive15 (h.on K0.out) hn se
  have HRD : Hid (Rd (w.alloc (stO ⟨5, se, gp, k, v⟩)) rb n fl R a cap ev) := h.on K0.out
  have HIN : Hid (∀ q, rAct R.all se = some q → q < R.all.length) := fun q hq => by
    obtain ⟨r, h1, -⟩ := rAct_in hq
    exact (List.getElem?_eq_some_iff.1 h1).1
  unfold RfP
  obtain ⟨cd, ecd⟩ : ∃ cd, cd = rCode n R ⟨5, se, gp, k, v⟩ := ⟨_, rfl⟩
  rw [← ecd]
  have ECD : Hid (cd = rCode n R ⟨5, se, gp, k, v⟩) := ecd
  unfold stA
  simp only
  clear h ecd hk hv
  go_enter Try.func35, Try.ntmps35
  go_upto_region 1 with fail
  generalize w.alloc (stO ⟨5, se, gp, k, v⟩) = W at *
  generalize w.heap.size = g at *
  obtain ⟨c0, c1, c2, c3, c4⟩ := st_cells G0.out
  have hg := lt_of_heap G0.out
  simp only at c0 c1 c2 c3 c4
  have m0 := HRD.out.c0
  have m2 := HRD.out.c2
  have m3 := HRD.out.c3
  have hrl := HRD.out.lt
  obtain ⟨L, eL⟩ : ∃ L, L = R.all.length := ⟨_, rfl⟩
  rw [← eL] at hn m3
  have EL : Hid (L = R.all.length) := eL
  clear eL
  go_wp2_with fail
  refine Calls.mono HAC.out ?_
  rintro r2 w2 ⟨rfl, e2⟩
  subst e2
  clear HAC
  by_cases s1 : se < 0
  · have f1 : decide (se < 0) = true := decide_eq_true s1
    have EC : Hid (cd = 152) := (show cd = _ from ECD.out).trans (by simp [rCode, codeB, s1])
    go_upto_region 5 with fail
    go_quiet (fail)
    go_wp2_with fail
    go_ret
    exact ⟨by rw [show cd = 152 from EC.out]; rfl, (by (repeat (first | exact K0.out | apply Same.drewN | apply Same.drew)); done)⟩
  have N_s1 : Hid (¬ (se < 0)) := s1
  have f1 : decide (se < 0) = false := decide_eq_false s1
  by_cases s2 : (n : Int) ≤ se
  · have f2 : decide ((n : Int) ≤ se) = true := decide_eq_true s2
    have EC : Hid (cd = 152) := (show cd = _ from ECD.out).trans (by simp [rCode, codeB, s2])
    go_upto_region 5 with fail
    go_quiet (fail)
    go_wp2_with fail
    go_ret
    exact ⟨by rw [show cd = 152 from EC.out]; rfl, (by (repeat (first | exact K0.out | apply Same.drewN | apply Same.drew)); done)⟩
  have N_s2 : Hid (¬ ((n : Int) ≤ se)) := s2
  have f2 : decide ((n : Int) ≤ se) = false := decide_eq_false s2
  go_upto_region 5 with fail
  go_quiet (fail)
  clear m0
  by_cases g1 : gp < 0
  · have f_g1 : decide (gp < 0) = true := decide_eq_true g1
    have EC : Hid (cd = 153) := (show cd = _ from ECD.out).trans (by simp [rCode, codeB, eq_false (show ¬ (se < 0) by have h9 := N_s1.out; omega), eq_false (show ¬ ((n : Int) ≤ se) by have h9 := N_s2.out; omega), g1])
    go_wp2_with fail
    go_ret
    exact ⟨by rw [show cd = 153 from EC.out]; rfl, (by (repeat (first | exact K0.out | apply Same.drewN | apply Same.drew)); done)⟩
  have N_g1 : Hid (¬ (gp < 0)) := g1
  have f_g1 : decide (gp < 0) = false := decide_eq_false g1
  by_cases g2 : (1000 : Int) < gp
  · have f_g2 : decide ((1000 : Int) < gp) = true := decide_eq_true g2
    have EC : Hid (cd = 153) := (show cd = _ from ECD.out).trans (by simp [rCode, codeB, eq_false (show ¬ (se < 0) by have h9 := N_s1.out; omega), eq_false (show ¬ ((n : Int) ≤ se) by have h9 := N_s2.out; omega), eq_false (show ¬ (gp < 0) by have h9 := N_g1.out; omega), g2])
    go_wp2_with fail
    go_ret
    exact ⟨by rw [show cd = 153 from EC.out]; rfl, (by (repeat (first | exact K0.out | apply Same.drewN | apply Same.drew)); done)⟩
  have N_g2 : Hid (¬ ((1000 : Int) < gp)) := g2
  have f_g2 : decide ((1000 : Int) < gp) = false := decide_eq_false g2
  cases ha : rAct R.all se with
  | none =>
    have EC : Hid (cd = 156) := (show cd = _ from ECD.out).trans (by simp [rCode, codeB, isO, eq_false (show ¬ (se < 0) by have h9 := N_s1.out; omega), eq_false (show ¬ ((n : Int) ≤ se) by have h9 := N_s2.out; omega), eq_false (show ¬ (gp < 0) by have h9 := N_g1.out; omega), eq_false (show ¬ ((1000 : Int) < gp) by have h9 := N_g2.out; omega), ha])
    rw [show ix none = (-1 : Int) from rfl]
    clear ha
    go_wp2_with fail
    go_ret
    exact ⟨by rw [show cd = 156 from EC.out]; rfl, (by (repeat (first | exact K0.out | apply Same.drewN | apply Same.drew)); done)⟩
  | some q =>
    have hq := HIN.out q ha
    have dq1 : decide ((q : Int) < 0) = false := decide_eq_false (by omega)
    have dq2 : ¬ ((q : Int) < 0) := by omega
    have dq4 : (0 : Int) ≤ (q : Int) := by omega
    have dq3 : (q : Int) < (L : Int) := by have h9 : L = R.all.length := EL.out; omega
    rw [show ix (some q) = (q : Int) from rfl]
    by_cases z1 : 1099511627775 - gp < R.clock
    · have f_z : decide (1099511627775 - gp < R.clock) = true := decide_eq_true z1
      have EC : Hid (cd = 154) := (show cd = _ from ECD.out).trans (by simp [rCode, codeB, isO, eq_false (show ¬ (se < 0) by have h9 := N_s1.out; omega), eq_false (show ¬ ((n : Int) ≤ se) by have h9 := N_s2.out; omega), eq_false (show ¬ (gp < 0) by have h9 := N_g1.out; omega), eq_false (show ¬ ((1000 : Int) < gp) by have h9 := N_g2.out; omega), ha, z1])
      clear ha
      go_upto_region 21 with fail
      go_quiet (fail)
      go_wp2_with fail
      go_ret
      exact ⟨by rw [show cd = 154 from EC.out]; rfl, (by (repeat (first | exact K0.out | apply Same.drewN | apply Same.drew)); done)⟩
    have N_z1 : Hid (¬ (1099511627775 - gp < R.clock)) := z1
    have f_z : decide (1099511627775 - gp < R.clock) = false := decide_eq_false z1
    have EC : Hid (cd = 0) := (show cd = _ from ECD.out).trans (by simp [rCode, codeB, isO, eq_false (show ¬ (se < 0) by have h9 := N_s1.out; omega), eq_false (show ¬ ((n : Int) ≤ se) by have h9 := N_s2.out; omega), eq_false (show ¬ (gp < 0) by have h9 := N_g1.out; omega), eq_false (show ¬ ((1000 : Int) < gp) by have h9 := N_g2.out; omega), ha, eq_false (show ¬ (1099511627775 - gp < R.clock) by have h9 := N_z1.out; omega)])
    clear ha
    go_upto_region 21 with fail
    go_quiet (fail)
    go_wp2_with fail
    go_ret
    exact ⟨by rw [show cd = 0 from EC.out]; rfl, (by (repeat (first | exact K0.out | apply Same.drewN | apply Same.drew)); done)⟩
set_option maxRecDepth 100000 in
set_option maxHeartbeats 3200000 in
theorem refuse_6 {w : World} {rb n : Nat} {fl : Int} {R : Rr} {a : Option Addr} {cap : Nat} {ev : Value} (h : Rd w rb n fl R a cap ev) (hs : Sml R) (se gp : Int) (k v : ByteArray) (hk : k.size ≤ maxLen) (hv : v.size ≤ maxLen) : RfP w rb n R ⟨6, se, gp, k, v⟩ := by
  have HH : Hid (Rd w rb n fl R a cap ev) := h
  have hn := hs.n
  have hks : (k.size : Int) ≤ 9223372036854775807 := by unfold maxLen at hk; omega
  have hvs : (v.size : Int) ≤ 9223372036854775807 := by unfold maxLen at hv; omega
  have K0 : Hid (Kept w (w.alloc (stO ⟨6, se, gp, k, v⟩))) := (Same.refl _ w).alloc _
  have G0 : Hid _ := heap_new w (stO ⟨6, se, gp, k, v⟩)
  have HAC : Hid _ := ractive15 (h.on K0.out) hn se
  have HRD : Hid (Rd (w.alloc (stO ⟨6, se, gp, k, v⟩)) rb n fl R a cap ev) := h.on K0.out
  have HIN : Hid (∀ q, rAct R.all se = some q → q < R.all.length) := fun q hq => by
    obtain ⟨r, h1, -⟩ := rAct_in hq
    exact (List.getElem?_eq_some_iff.1 h1).1
  unfold RfP
  obtain ⟨cd, ecd⟩ : ∃ cd, cd = rCode n R ⟨6, se, gp, k, v⟩ := ⟨_, rfl⟩
  rw [← ecd]
  have ECD : Hid (cd = rCode n R ⟨6, se, gp, k, v⟩) := ecd
  unfold stA
  simp only
  clear h ecd hk hv
  go_enter Try.func35, Try.ntmps35
  go_upto_region 1 with fail
  generalize w.alloc (stO ⟨6, se, gp, k, v⟩) = W at *
  generalize w.heap.size = g at *
  obtain ⟨c0, c1, c2, c3, c4⟩ := st_cells G0.out
  have hg := lt_of_heap G0.out
  simp only at c0 c1 c2 c3 c4
  have m0 := HRD.out.c0
  have m2 := HRD.out.c2
  have m3 := HRD.out.c3
  have hrl := HRD.out.lt
  obtain ⟨L, eL⟩ : ∃ L, L = R.all.length := ⟨_, rfl⟩
  rw [← eL] at hn m3
  have EL : Hid (L = R.all.length) := eL
  clear eL
  go_wp2_with fail
  refine Calls.mono HAC.out ?_
  rintro r2 w2 ⟨rfl, e2⟩
  subst e2
  clear HAC
  by_cases s1 : se < 0
  · have f1 : decide (se < 0) = true := decide_eq_true s1
    have EC : Hid (cd = 152) := (show cd = _ from ECD.out).trans (by simp [rCode, codeB, s1])
    go_upto_region 5 with fail
    go_quiet (fail)
    go_wp2_with fail
    go_ret
    exact ⟨by rw [show cd = 152 from EC.out]; rfl, (by (repeat (first | exact K0.out | apply Same.drewN | apply Same.drew)); done)⟩
  have N_s1 : Hid (¬ (se < 0)) := s1
  have f1 : decide (se < 0) = false := decide_eq_false s1
  by_cases s2 : (n : Int) ≤ se
  · have f2 : decide ((n : Int) ≤ se) = true := decide_eq_true s2
    have EC : Hid (cd = 152) := (show cd = _ from ECD.out).trans (by simp [rCode, codeB, s2])
    go_upto_region 5 with fail
    go_quiet (fail)
    go_wp2_with fail
    go_ret
    exact ⟨by rw [show cd = 152 from EC.out]; rfl, (by (repeat (first | exact K0.out | apply Same.drewN | apply Same.drew)); done)⟩
  have N_s2 : Hid (¬ ((n : Int) ≤ se)) := s2
  have f2 : decide ((n : Int) ≤ se) = false := decide_eq_false s2
  go_upto_region 5 with fail
  go_quiet (fail)
  clear m0
  by_cases g1 : gp < 0
  · have f_g1 : decide (gp < 0) = true := decide_eq_true g1
    have EC : Hid (cd = 153) := (show cd = _ from ECD.out).trans (by simp [rCode, codeB, eq_false (show ¬ (se < 0) by have h9 := N_s1.out; omega), eq_false (show ¬ ((n : Int) ≤ se) by have h9 := N_s2.out; omega), g1])
    go_wp2_with fail
    go_ret
    exact ⟨by rw [show cd = 153 from EC.out]; rfl, (by (repeat (first | exact K0.out | apply Same.drewN | apply Same.drew)); done)⟩
  have N_g1 : Hid (¬ (gp < 0)) := g1
  have f_g1 : decide (gp < 0) = false := decide_eq_false g1
  by_cases g2 : (1000 : Int) < gp
  · have f_g2 : decide ((1000 : Int) < gp) = true := decide_eq_true g2
    have EC : Hid (cd = 153) := (show cd = _ from ECD.out).trans (by simp [rCode, codeB, eq_false (show ¬ (se < 0) by have h9 := N_s1.out; omega), eq_false (show ¬ ((n : Int) ≤ se) by have h9 := N_s2.out; omega), eq_false (show ¬ (gp < 0) by have h9 := N_g1.out; omega), g2])
    go_wp2_with fail
    go_ret
    exact ⟨by rw [show cd = 153 from EC.out]; rfl, (by (repeat (first | exact K0.out | apply Same.drewN | apply Same.drew)); done)⟩
  have N_g2 : Hid (¬ ((1000 : Int) < gp)) := g2
  have f_g2 : decide ((1000 : Int) < gp) = false := decide_eq_false g2
  cases ha : rAct R.all se with
  | none =>
    have EC : Hid (cd = 156) := (show cd = _ from ECD.out).trans (by simp [rCode, codeB, isO, eq_false (show ¬ (se < 0) by have h9 := N_s1.out; omega), eq_false (show ¬ ((n : Int) ≤ se) by have h9 := N_s2.out; omega), eq_false (show ¬ (gp < 0) by have h9 := N_g1.out; omega), eq_false (show ¬ ((1000 : Int) < gp) by have h9 := N_g2.out; omega), ha])
    rw [show ix none = (-1 : Int) from rfl]
    clear ha
    go_wp2_with fail
    go_ret
    exact ⟨by rw [show cd = 156 from EC.out]; rfl, (by (repeat (first | exact K0.out | apply Same.drewN | apply Same.drew)); done)⟩
  | some q =>
    have hq := HIN.out q ha
    have dq1 : decide ((q : Int) < 0) = false := decide_eq_false (by omega)
    have dq2 : ¬ ((q : Int) < 0) := by omega
    have dq4 : (0 : Int) ≤ (q : Int) := by omega
    have dq3 : (q : Int) < (L : Int) := by have h9 : L = R.all.length := EL.out; omega
    rw [show ix (some q) = (q : Int) from rfl]
    by_cases z1 : 1099511627775 - gp < R.clock
    · have f_z : decide (1099511627775 - gp < R.clock) = true := decide_eq_true z1
      have EC : Hid (cd = 154) := (show cd = _ from ECD.out).trans (by simp [rCode, codeB, isO, eq_false (show ¬ (se < 0) by have h9 := N_s1.out; omega), eq_false (show ¬ ((n : Int) ≤ se) by have h9 := N_s2.out; omega), eq_false (show ¬ (gp < 0) by have h9 := N_g1.out; omega), eq_false (show ¬ ((1000 : Int) < gp) by have h9 := N_g2.out; omega), ha, z1])
      clear ha
      go_upto_region 21 with fail
      go_quiet (fail)
      go_wp2_with fail
      go_ret
      exact ⟨by rw [show cd = 154 from EC.out]; rfl, (by (repeat (first | exact K0.out | apply Same.drewN | apply Same.drew)); done)⟩
    have N_z1 : Hid (¬ (1099511627775 - gp < R.clock)) := z1
    have f_z : decide (1099511627775 - gp < R.clock) = false := decide_eq_false z1
    have EC : Hid (cd = 0) := (show cd = _ from ECD.out).trans (by simp [rCode, codeB, isO, eq_false (show ¬ (se < 0) by have h9 := N_s1.out; omega), eq_false (show ¬ ((n : Int) ≤ se) by have h9 := N_s2.out; omega), eq_false (show ¬ (gp < 0) by have h9 := N_g1.out; omega), eq_false (show ¬ ((1000 : Int) < gp) by have h9 := N_g2.out; omega), ha, eq_false (show ¬ (1099511627775 - gp < R.clock) by have h9 := N_z1.out; omega)])
    clear ha
    go_upto_region 21 with fail
    go_quiet (fail)
    go_wp2_with fail
    go_ret
    exact ⟨by rw [show cd = 0 from EC.out]; rfl, (by (repeat (first | exact K0.out | apply Same.drewN | apply Same.drew)); done)⟩
set_option maxRecDepth 100000 in
set_option maxHeartbeats 3200000 in
theorem refuse_bad {w : World} {rb n : Nat} {fl : Int} {R : Rr} {a : Option Addr} {cap : Nat} {ev : Value} (h : Rd w rb n fl R a cap ev) (hs : Sml R) (kd se gp : Int) (k v : ByteArray) (hk : k.size ≤ maxLen) (hv : v.size ≤ maxLen) (hkd : kd < 1 ∨ 6 < kd) : RfP w rb n R ⟨kd, se, gp, k, v⟩ := by
  have HH : Hid (Rd w rb n fl R a cap ev) := h
  have hn := hs.n
  have hks : (k.size : Int) ≤ 9223372036854775807 := by unfold maxLen at hk; omega
  have hvs : (v.size : Int) ≤ 9223372036854775807 := by unfold maxLen at hv; omega
  have K0 : Hid (Kept w (w.alloc (stO ⟨kd, se, gp, k, v⟩))) := (Same.refl _ w).alloc _
  have G0 : Hid _ := heap_new w (stO ⟨kd, se, gp, k, v⟩)
  have HAC : Hid _ := ractive15 (h.on K0.out) hn se
  have HRD : Hid (Rd (w.alloc (stO ⟨kd, se, gp, k, v⟩)) rb n fl R a cap ev) := h.on K0.out
  have HIN : Hid (∀ q, rAct R.all se = some q → q < R.all.length) := fun q hq => by
    obtain ⟨r, h1, -⟩ := rAct_in hq
    exact (List.getElem?_eq_some_iff.1 h1).1
  unfold RfP
  obtain ⟨cd, ecd⟩ : ∃ cd, cd = rCode n R ⟨kd, se, gp, k, v⟩ := ⟨_, rfl⟩
  rw [← ecd]
  have ECD : Hid (cd = rCode n R ⟨kd, se, gp, k, v⟩) := ecd
  unfold stA
  simp only
  clear h ecd hk hv
  go_enter Try.func35, Try.ntmps35
  go_upto_region 1 with fail
  generalize w.alloc (stO ⟨kd, se, gp, k, v⟩) = W at *
  generalize w.heap.size = g at *
  obtain ⟨c0, c1, c2, c3, c4⟩ := st_cells G0.out
  have hg := lt_of_heap G0.out
  simp only at c0 c1 c2 c3 c4
  have m0 := HRD.out.c0
  have m2 := HRD.out.c2
  have m3 := HRD.out.c3
  have hrl := HRD.out.lt
  obtain ⟨L, eL⟩ : ∃ L, L = R.all.length := ⟨_, rfl⟩
  rw [← eL] at hn m3
  have EL : Hid (L = R.all.length) := eL
  clear eL
  have EC : Hid (cd = 151) := (show cd = _ from ECD.out).trans (by simp [rCode, codeB, hkd])
  have x2 : (kd == 2) = false := by simp; omega
  have x3 : (kd == 3) = false := by simp; omega
  have x4 : (kd == 4) = false := by simp; omega
  go_wp2_with fail
  refine Calls.mono HAC.out ?_
  rintro r2 w2 ⟨rfl, e2⟩
  subst e2
  clear HAC
  by_cases s1 : kd < 1
  · have f1 : decide (kd < 1) = true := decide_eq_true s1
    clear hkd
    go_wp2_with fail
    go_ret
    exact ⟨by rw [show cd = 151 from EC.out]; rfl, K0.out⟩
  · have f1 : decide (kd < 1) = false := decide_eq_false s1
    have f2 : decide (6 < kd) = true := decide_eq_true (by omega)
    have f3 : 6 < kd := by omega
    clear hkd
    go_wp2_with fail
    go_ret
    exact ⟨by rw [show cd = 151 from EC.out]; rfl, K0.out⟩
theorem rrefuse15 {w : World} {rb n : Nat} {fl : Int} {R : Rr} {a : Option Addr} {cap : Nat} {ev : Value} (h : Rd w rb n fl R a cap ev) (hs : Sml R) (s : Stp) (hk : s.key.size ≤ maxLen) (hv : s.value.size ≤ maxLen) : RfP w rb n R s := by
  obtain ⟨kd, se, gp, k, v⟩ := s
  by_cases hkd : kd < 1 ∨ 6 < kd
  · exact refuse_bad h hs kd se gp k v hk hv hkd
  · have : kd = 1 ∨ kd = 2 ∨ kd = 3 ∨ kd = 4 ∨ kd = 5 ∨ kd = 6 := by omega
    rcases this with rfl | rfl | rfl | rfl | rfl | rfl
    · exact refuse_1 h hs se gp k v hk hv
    · exact refuse_2 h hs se gp k v hk hv
    · exact refuse_3 h hs se gp k v hk hv
    · exact refuse_4 h hs se gp k v hk hv
    · exact refuse_5 h hs se gp k v hk hv
    · exact refuse_6 h hs se gp k v hk hv
end Go.Proofs.Ytmghmacgljihcaa
