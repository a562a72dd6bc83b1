/- What is proved: the document's machine refuses what the plain one does; commit and abort; no condition. -/
import Derived.Test.YtbjmdpfoeeadeaaMRd
import Derived.Deep.RegionLaw
namespace Go.Proofs.Ytbjmdpfoeeadeaa.Ch.Mc
open Go.RowKit

abbrev stA (s : Stp) : Value := .agg #[.int .i64 s.kind, .int .i64 s.ses, .int .i64 s.gap, .string s.key, .string s.value]
abbrev stO (s : Stp) : Obj := .cells #[.int .i64 s.kind, .int .i64 s.ses, .int .i64 s.gap, .string s.key, .string s.value] 92 (0, 0)
theorem st_cells {w : World} {g : Nat} {s : Stp} (h : w.heap[g]? = some (stO s)) : w.cell? ⟨g, 0, none⟩ = some (.int .i64 s.kind) ∧ w.cell? ⟨g, 1, none⟩ = some (.int .i64 s.ses) ∧ w.cell? ⟨g, 2, none⟩ = some (.int .i64 s.gap) ∧ w.cell? ⟨g, 3, none⟩ = some (.string s.key) ∧ w.cell? ⟨g, 4, none⟩ = some (.string s.value) :=
  ⟨(cell_of h 0).trans rfl, (cell_of h 1).trans rfl, (cell_of h 2).trans rfl, (cell_of h 3).trans rfl, (cell_of h 4).trans rfl⟩
abbrev RfP (w : World) (rb n : Nat) (R : Rr) (s : Stp) : Prop := Calls Try.prog 61 #[.pointer (some ⟨rb, 0, none⟩), stA s] w fun e w' => e = .returned (.int .i64 (rCode n R s)) ∧ Kept w w'
set_option maxRecDepth 100000 in
set_option maxHeartbeats 3200000 in
theorem refuse_1 {w : World} {rb n : Nat} {fl : Int} {R : Rr} {a : Option Addr} {cap : Nat} {ev : Value} (h : Rd w rb n fl R a cap ev) (hs : Sml R) (se gp : Int) (k v : ByteArray) (hk : k.size ≤ maxLen) (hv : v.size ≤ maxLen) : RfP w rb n R ⟨1, se, gp, k, v⟩ := by
  have HH : Hid (Rd w rb n fl R a cap ev) := h
  have hn := hs.n
  have hks : (k.size : Int) ≤ 9223372036854775807 := by unfold maxLen at hk; omega
  have hvs : (v.size : Int) ≤ 9223372036854775807 := by unfold maxLen at hv; omega
  have K0 : Hid (Kept w (w.alloc (stO ⟨1, se, gp, k, v⟩))) := (Same.refl _ w).alloc _
  have G0 : Hid _ := heap_new w (stO ⟨1, se, gp, k, v⟩)
  have HAC : Hid _ := ractive15 (h.on K0.out) hn se
  have HRD : Hid (Rd (w.alloc (stO ⟨1, se, gp, k, v⟩)) rb n fl R a cap ev) := h.on K0.out
  have HIN : Hid (∀ q, rAct R.all se = some q → q < R.all.length) := fun q hq => by
    obtain ⟨r, h1, -⟩ := rAct_in hq
    exact (List.getElem?_eq_some_iff.1 h1).1
  unfold RfP
  obtain ⟨cd, ecd⟩ : ∃ cd, cd = rCode n R ⟨1, se, gp, k, v⟩ := ⟨_, rfl⟩
  rw [← ecd]
  have ECD : Hid (cd = rCode n R ⟨1, se, gp, k, v⟩) := ecd
  unfold stA
  simp only
  clear h ecd hk hv
  go_enter Try.func61, Try.ntmps61
  go_upto_region 1 with fail
  generalize w.alloc (stO ⟨1, se, gp, k, v⟩) = W at *
  generalize w.heap.size = g at *
  obtain ⟨c0, c1, c2, c3, c4⟩ := st_cells G0.out
  have hg := lt_of_heap G0.out
  simp only at c0 c1 c2 c3 c4
  have m0 := HRD.out.c0
  have m2 := HRD.out.c2
  have m3 := HRD.out.c3
  have hrl := HRD.out.lt
  obtain ⟨L, eL⟩ : ∃ L, L = R.all.length := ⟨_, rfl⟩
  rw [← eL] at hn m3
  have EL : Hid (L = R.all.length) := eL
  clear eL
  go_wp2_with fail
  refine Calls.mono HAC.out ?_
  rintro r2 w2 ⟨rfl, e2⟩
  subst e2
  clear HAC
  by_cases s1 : se < 0
  · have f1 : decide (se < 0) = true := decide_eq_true s1
    have EC : Hid (cd = 152) := (show cd = _ from ECD.out).trans (by simp [rCode, codeB, s1])
    go_upto_region 5 with fail
    go_quiet (fail)
    go_wp2_with fail
    go_ret
    exact ⟨by rw [show cd = 152 from EC.out]; rfl, (by (repeat (first | exact K0.out | apply Same.drewN | apply Same.drew)); done)⟩
  have N_s1 : Hid (¬ (se < 0)) := s1
  have f1 : decide (se < 0) = false := decide_eq_false s1
  by_cases s2 : (n : Int) ≤ se
  · have f2 : decide ((n : Int) ≤ se) = true := decide_eq_true s2
    have EC : Hid (cd = 152) := (show cd = _ from ECD.out).trans (by simp [rCode, codeB, s2])
    go_upto_region 5 with fail
    go_quiet (fail)
    go_wp2_with fail
    go_ret
    exact ⟨by rw [show cd = 152 from EC.out]; rfl, (by (repeat (first | exact K0.out | apply Same.drewN | apply Same.drew)); done)⟩
  have N_s2 : Hid (¬ ((n : Int) ≤ se)) := s2
  have f2 : decide ((n : Int) ≤ se) = false := decide_eq_false s2
  go_upto_region 5 with fail
  go_quiet (fail)
  clear m0
  by_cases g1 : gp < 0
  · have f_g1 : decide (gp < 0) = true := decide_eq_true g1
    have EC : Hid (cd = 153) := (show cd = _ from ECD.out).trans (by simp [rCode, codeB, eq_false (show ¬ (se < 0) by have h9 := N_s1.out; omega), eq_false (show ¬ ((n : Int) ≤ se) by have h9 := N_s2.out; omega), g1])
    go_wp2_with fail
    go_ret
    exact ⟨by rw [show cd = 153 from EC.out]; rfl, (by (repeat (first | exact K0.out | apply Same.drewN | apply Same.drew)); done)⟩
  have N_g1 : Hid (¬ (gp < 0)) := g1
  have f_g1 : decide (gp < 0) = false := decide_eq_false g1
  by_cases g2 : (1000 : Int) < gp
  · have f_g2 : decide ((1000 : Int) < gp) = true := decide_eq_true g2
    have EC : Hid (cd = 153) := (show cd = _ from ECD.out).trans (by simp [rCode, codeB, eq_false (show ¬ (se < 0) by have h9 := N_s1.out; omega), eq_false (show ¬ ((n : Int) ≤ se) by have h9 := N_s2.out; omega), eq_false (show ¬ (gp < 0) by have h9 := N_g1.out; omega), g2])
    go_wp2_with fail
    go_ret
    exact ⟨by rw [show cd = 153 from EC.out]; rfl, (by (repeat (first | exact K0.out | apply Same.drewN | apply Same.drew)); done)⟩
  have N_g2 : Hid (¬ ((1000 : Int) < gp)) := g2
  have f_g2 : decide ((1000 : Int) < gp) = false := decide_eq_false g2
  cases ha : rAct R.all se with
  | some q =>
    have EC : Hid (cd = 155) := (show cd = _ from ECD.out).trans (by simp [rCode, codeB, isO, eq_false (show ¬ (se < 0) by have h9 := N_s1.out; omega), eq_false (show ¬ ((n : Int) ≤ se) by have h9 := N_s2.out; omega), eq_false (show ¬ (gp < 0) by have h9 := N_g1.out; omega), eq_false (show ¬ ((1000 : Int) < gp) by have h9 := N_g2.out; omega), ha])
    have dq1 : decide ((0 : Int) ≤ (q : Int)) = true := decide_eq_true (by omega)
    have dq2 : (0 : Int) ≤ (q : Int) := by omega
    rw [show ix (some q) = (q : Int) from rfl]
    clear ha
    go_wp2_with fail
    go_ret
    exact ⟨by rw [show cd = 155 from EC.out]; rfl, (by (repeat (first | exact K0.out | apply Same.drewN | apply Same.drew)); done)⟩
  | none =>
    rw [show ix none = (-1 : Int) from rfl]
    by_cases b1 : 4096 ≤ L
    · have f_b : decide ((4096 : Int) ≤ (L : Int)) = true := decide_eq_true (by omega)
      have b1' := b1
      rw [show L = R.all.length from EL.out] at b1'
      have EC : Hid (cd = 71) := (show cd = _ from ECD.out).trans (by simp [rCode, codeB, isO, eq_false (show ¬ (se < 0) by have h9 := N_s1.out; omega), eq_false (show ¬ ((n : Int) ≤ se) by have h9 := N_s2.out; omega), eq_false (show ¬ (gp < 0) by have h9 := N_g1.out; omega), eq_false (show ¬ ((1000 : Int) < gp) by have h9 := N_g2.out; omega), ha, b1'])
      clear ha b1'
      go_wp2_with fail
      go_ret
      exact ⟨by rw [show cd = 71 from EC.out]; rfl, (by (repeat (first | exact K0.out | apply Same.drewN | apply Same.drew)); done)⟩
    have f_b : decide ((4096 : Int) ≤ (L : Int)) = false := decide_eq_false (by omega)
    have N_b1 : Hid (¬ (4096 ≤ R.all.length)) := by
      show ¬ (4096 ≤ R.all.length)
      rw [← show L = R.all.length from EL.out]
      exact b1
    by_cases z1 : 1099511627775 - gp < R.clock
    · have f_z : decide (1099511627775 - gp < R.clock) = true := decide_eq_true z1
      have EC : Hid (cd = 154) := (show cd = _ from ECD.out).trans (by simp [rCode, codeB, isO, eq_false (show ¬ (se < 0) by have h9 := N_s1.out; omega), eq_false (show ¬ ((n : Int) ≤ se) by have h9 := N_s2.out; omega), eq_false (show ¬ (gp < 0) by have h9 := N_g1.out; omega), eq_false (show ¬ ((1000 : Int) < gp) by have h9 := N_g2.out; omega), ha, eq_false (show ¬ (4096 ≤ R.all.length) by have h9 := N_b1.out; omega), z1])
      clear ha
      go_upto_region 21 with fail
      go_quiet (fail)
      go_wp2_with fail
      go_ret
      exact ⟨by rw [show cd = 154 from EC.out]; rfl, (by (repeat (first | exact K0.out | apply Same.drewN | apply Same.drew)); done)⟩
    have N_z1 : Hid (¬ (1099511627775 - gp < R.clock)) := z1
    have f_z : decide (1099511627775 - gp < R.clock) = false := decide_eq_false z1
    have EC : Hid (cd = 0) := (show cd = _ from ECD.out).trans (by simp [rCode, codeB, isO, eq_false (show ¬ (se < 0) by have h9 := N_s1.out; omega), eq_false (show ¬ ((n : Int) ≤ se) by have h9 := N_s2.out; omega), eq_false (show ¬ (gp < 0) by have h9 := N_g1.out; omega), eq_false (show ¬ ((1000 : Int) < gp) by have h9 := N_g2.out; omega), ha, eq_false (show ¬ (4096 ≤ R.all.length) by have h9 := N_b1.out; omega), eq_false (show ¬ (1099511627775 - gp < R.clock) by have h9 := N_z1.out; omega)])
    clear ha
    go_upto_region 21 with fail
    go_quiet (fail)
    go_wp2_with fail
    go_ret
    exact ⟨by rw [show cd = 0 from EC.out]; rfl, (by (repeat (first | exact K0.out | apply Same.drewN | apply Same.drew)); done)⟩
set_option maxRecDepth 100000 in
set_option maxHeartbeats 3200000 in
theorem refuse_2 {w : World} {rb n : Nat} {fl : Int} {R : Rr} {a : Option Addr} {cap : Nat} {ev : Value} (h : Rd w rb n fl R a cap ev) (hs : Sml R) (se gp : Int) (k v : ByteArray) (hk : k.size ≤ maxLen) (hv : v.size ≤ maxLen) : RfP w rb n R ⟨2, se, gp, k, v⟩ := by
  have HH : Hid (Rd w rb n fl R a cap ev) := h
  have hn := hs.n
  have hks : (k.size : Int) ≤ 9223372036854775807 := by unfold maxLen at hk; omega
  have hvs : (v.size : Int) ≤ 9223372036854775807 := by unfold maxLen at hv; omega
  have K0 : Hid (Kept w (w.alloc (stO ⟨2, se, gp, k, v⟩))) := (Same.refl _ w).alloc _
  have G0 : Hid _ := heap_new w (stO ⟨2, se, gp, k, v⟩)
  have HAC : Hid _ := ractive15 (h.on K0.out) hn se
  have HRD : Hid (Rd (w.alloc (stO ⟨2, se, gp, k, v⟩)) rb n fl R a cap ev) := h.on K0.out
  have HIN : Hid (∀ q, rAct R.all se = some q → q < R.all.length) := fun q hq => by
    obtain ⟨r, h1, -⟩ := rAct_in hq
    exact (List.getElem?_eq_some_iff.1 h1).1
  unfold RfP
  obtain ⟨cd, ecd⟩ : ∃ cd, cd = rCode n R ⟨2, se, gp, k, v⟩ := ⟨_, rfl⟩
  rw [← ecd]
  have ECD : Hid (cd = rCode n R ⟨2, se, gp, k, v⟩) := ecd
  unfold stA
  simp only
  clear h ecd hk hv
  go_enter Try.func61, Try.ntmps61
  go_upto_region 1 with fail
  generalize w.alloc (stO ⟨2, se, gp, k, v⟩) = W at *
  generalize w.heap.size = g at *
  obtain ⟨c0, c1, c2, c3, c4⟩ := st_cells G0.out
  have hg := lt_of_heap G0.out
  simp only at c0 c1 c2 c3 c4
  have m0 := HRD.out.c0
  have m2 := HRD.out.c2
  have m3 := HRD.out.c3
  have hrl := HRD.out.lt
  obtain ⟨L, eL⟩ : ∃ L, L = R.all.length := ⟨_, rfl⟩
  rw [← eL] at hn m3
  have EL : Hid (L = R.all.length) := eL
  clear eL
  go_wp2_with fail
  refine Calls.mono HAC.out ?_
  rintro r2 w2 ⟨rfl, e2⟩
  subst e2
  clear HAC
  by_cases s1 : se < 0
  · have f1 : decide (se < 0) = true := decide_eq_true s1
    have EC : Hid (cd = 152) := (show cd = _ from ECD.out).trans (by simp [rCode, codeB, s1])
    go_upto_region 5 with fail
    go_quiet (fail)
    go_wp2_with fail
    go_ret
    exact ⟨by rw [show cd = 152 from EC.out]; rfl, (by (repeat (first | exact K0.out | apply Same.drewN | apply Same.drew)); done)⟩
  have N_s1 : Hid (¬ (se < 0)) := s1
  have f1 : decide (se < 0) = false := decide_eq_false s1
  by_cases s2 : (n : Int) ≤ se
  · have f2 : decide ((n : Int) ≤ se) = true := decide_eq_true s2
    have EC : Hid (cd = 152) := (show cd = _ from ECD.out).trans (by simp [rCode, codeB, s2])
    go_upto_region 5 with fail
    go_quiet (fail)
    go_wp2_with fail
    go_ret
    exact ⟨by rw [show cd = 152 from EC.out]; rfl, (by (repeat (first | exact K0.out | apply Same.drewN | apply Same.drew)); done)⟩
  have N_s2 : Hid (¬ ((n : Int) ≤ se)) := s2
  have f2 : decide ((n : Int) ≤ se) = false := decide_eq_false s2
  go_upto_region 5 with fail
  go_quiet (fail)
  clear m0
  by_cases g1 : gp < 0
  · have f_g1 : decide (gp < 0) = true := decide_eq_true g1
    have EC : Hid (cd = 153) := (show cd = _ from ECD.out).trans (by simp [rCode, codeB, eq_false (show ¬ (se < 0) by have h9 := N_s1.out; omega), eq_false (show ¬ ((n : Int) ≤ se) by have h9 := N_s2.out; omega), g1])
    go_wp2_with fail
    go_ret
    exact ⟨by rw [show cd = 153 from EC.out]; rfl, (by (repeat (first | exact K0.out | apply Same.drewN | apply Same.drew)); done)⟩
  have N_g1 : Hid (¬ (gp < 0)) := g1
  have f_g1 : decide (gp < 0) = false := decide_eq_false g1
  by_cases g2 : (1000 : Int) < gp
  · have f_g2 : decide ((1000 : Int) < gp) = true := decide_eq_true g2
    have EC : Hid (cd = 153) := (show cd = _ from ECD.out).trans (by simp [rCode, codeB, eq_false (show ¬ (se < 0) by have h9 := N_s1.out; omega), eq_false (show ¬ ((n : Int) ≤ se) by have h9 := N_s2.out; omega), eq_false (show ¬ (gp < 0) by have h9 := N_g1.out; omega), g2])
    go_wp2_with fail
    go_ret
    exact ⟨by rw [show cd = 153 from EC.out]; rfl, (by (repeat (first | exact K0.out | apply Same.drewN | apply Same.drew)); done)⟩
  have N_g2 : Hid (¬ ((1000 : Int) < gp)) := g2
  have f_g2 : decide ((1000 : Int) < gp) = false := decide_eq_false g2
  by_cases k1 : k.size = 0
  · have f_k1 : ((k.size : Int) == 0) = true := by simp [k1]
    have f_k2 : k = ByteArray.empty := ByteArray.size_eq_zero_iff.1 k1
    have EC : Hid (cd = 130) := (show cd = _ from ECD.out).trans (by simp [rCode, codeB, isO, eq_false (show ¬ (se < 0) by have h9 := N_s1.out; omega), eq_false (show ¬ ((n : Int) ≤ se) by have h9 := N_s2.out; omega), eq_false (show ¬ (gp < 0) by have h9 := N_g1.out; omega), eq_false (show ¬ ((1000 : Int) < gp) by have h9 := N_g2.out; omega), k1])
    go_wp2_with fail
    go_ret
    exact ⟨by rw [show cd = 130 from EC.out]; rfl, (by (repeat (first | exact K0.out | apply Same.drewN | apply Same.drew)); done)⟩
  have N_k1 : Hid (¬ (k.size = 0)) := k1
  have f_k1 : ((k.size : Int) == 0) = false := by simp [k1]
  have f_k2 : ¬ k = ByteArray.empty := fun e9 => k1 (by rw [e9]; rfl)
  by_cases k2 : 8 < k.size
  · have f_k3 : decide ((8 : Int) < (k.size : Int)) = true := decide_eq_true (by omega)
    have f_k4 : (8 : Int) < (k.size : Int) := by omega
    have EC : Hid (cd = 130) := (show cd = _ from ECD.out).trans (by simp [rCode, codeB, isO, eq_false (show ¬ (se < 0) by have h9 := N_s1.out; omega), eq_false (show ¬ ((n : Int) ≤ se) by have h9 := N_s2.out; omega), eq_false (show ¬ (gp < 0) by have h9 := N_g1.out; omega), eq_false (show ¬ ((1000 : Int) < gp) by have h9 := N_g2.out; omega), eq_false (show ¬ (k.size = 0) by have h9 := N_k1.out; omega), k2])
    go_wp2_with fail
    go_ret
    exact ⟨by rw [show cd = 130 from EC.out]; rfl, (by (repeat (first | exact K0.out | apply Same.drewN | apply Same.drew)); done)⟩
  have N_k2 : Hid (¬ (8 < k.size)) := k2
  have f_k3 : decide ((8 : Int) < (k.size : Int)) = false := decide_eq_false (by omega)
  have f_k4 : ¬ (8 : Int) < (k.size : Int) := by omega
  cases ha : rAct R.all se with
  | none =>
    have EC : Hid (cd = 156) := (show cd = _ from ECD.out).trans (by simp [rCode, codeB, isO, eq_false (show ¬ (se < 0) by have h9 := N_s1.out; omega), eq_false (show ¬ ((n : Int) ≤ se) by have h9 := N_s2.out; omega), eq_false (show ¬ (gp < 0) by have h9 := N_g1.out; omega), eq_false (show ¬ ((1000 : Int) < gp) by have h9 := N_g2.out; omega), eq_false (show ¬ (k.size = 0) by have h9 := N_k1.out; omega), eq_false (show ¬ (8 < k.size) by have h9 := N_k2.out; omega), ha])
    rw [show ix none = (-1 : Int) from rfl]
    clear ha
    go_wp2_with fail
    go_ret
    exact ⟨by rw [show cd = 156 from EC.out]; rfl, (by (repeat (first | exact K0.out | apply Same.drewN | apply Same.drew)); done)⟩
  | some q =>
    have hq := HIN.out q ha
    have dq1 : decide ((q : Int) < 0) = false := decide_eq_false (by omega)
    have dq2 : ¬ ((q : Int) < 0) := by omega
    have dq4 : (0 : Int) ≤ (q : Int) := by omega
    have dq3 : (q : Int) < (L : Int) := by have h9 : L = R.all.length := EL.out; omega
    rw [show ix (some q) = (q : Int) from rfl]
    obtain ⟨b, off, oa, oc, ta, tc, rfl, hb, hR⟩ := HRD.out.run q _ (gR_at hq)
    have p7 := hR.c7
    have hol := (hs.o _ (List.mem_of_getElem? (gR_at hq))).1
    have HO1 : Hid (opsR R se = (gR R.all q).t.ops.length) := by
      show opsR R se = _
      unfold opsR
      rw [ha]
    clear hR
    generalize (gR R.all q).t.ops.length = ol at *
    by_cases o1 : 16 ≤ ol
    · have f_o : decide ((16 : Int) ≤ (ol : Int)) = true := decide_eq_true (by omega)
      have f_o2 : (16 : Int) ≤ (ol : Int) := by omega
      have o1' : 16 ≤ opsR R se := by rw [show opsR R se = _ from HO1.out]; exact o1
      have EC : Hid (cd = 63) := (show cd = _ from ECD.out).trans (by simp [rCode, codeB, isO, eq_false (show ¬ (se < 0) by have h9 := N_s1.out; omega), eq_false (show ¬ ((n : Int) ≤ se) by have h9 := N_s2.out; omega), eq_false (show ¬ (gp < 0) by have h9 := N_g1.out; omega), eq_false (show ¬ ((1000 : Int) < gp) by have h9 := N_g2.out; omega), eq_false (show ¬ (k.size = 0) by have h9 := N_k1.out; omega), eq_false (show ¬ (8 < k.size) by have h9 := N_k2.out; omega), ha, o1'])
      clear ha o1'
      go_wp2_with fail
      go_ret
      exact ⟨by rw [show cd = 63 from EC.out]; rfl, (by (repeat (first | exact K0.out | apply Same.drewN | apply Same.drew)); done)⟩
    have f_o : decide ((16 : Int) ≤ (ol : Int)) = false := decide_eq_false (by omega)
    have f_o2 : ¬ (16 : Int) ≤ (ol : Int) := by omega
    have N_o1 : Hid (¬ (16 ≤ opsR R se)) := by
      show ¬ (16 ≤ opsR R se)
      rw [show opsR R se = _ from HO1.out]
      exact o1
    by_cases z1 : 1099511627775 - gp < R.clock
    · have f_z : decide (1099511627775 - gp < R.clock) = true := decide_eq_true z1
      have EC : Hid (cd = 154) := (show cd = _ from ECD.out).trans (by simp [rCode, codeB, isO, eq_false (show ¬ (se < 0) by have h9 := N_s1.out; omega), eq_false (show ¬ ((n : Int) ≤ se) by have h9 := N_s2.out; omega), eq_false (show ¬ (gp < 0) by have h9 := N_g1.out; omega), eq_false (show ¬ ((1000 : Int) < gp) by have h9 := N_g2.out; omega), eq_false (show ¬ (k.size = 0) by have h9 := N_k1.out; omega), eq_false (show ¬ (8 < k.size) by have h9 := N_k2.out; omega), ha, eq_false (show ¬ (16 ≤ opsR R se) by have h9 := N_o1.out; omega), z1])
      clear ha
      go_upto_region 21 with fail
      go_quiet (fail)
      go_wp2_with fail
      go_ret
      exact ⟨by rw [show cd = 154 from EC.out]; rfl, (by (repeat (first | exact K0.out | apply Same.drewN | apply Same.drew)); done)⟩
    have N_z1 : Hid (¬ (1099511627775 - gp < R.clock)) := z1
    have f_z : decide (1099511627775 - gp < R.clock) = false := decide_eq_false z1
    have EC : Hid (cd = 0) := (show cd = _ from ECD.out).trans (by simp [rCode, codeB, isO, eq_false (show ¬ (se < 0) by have h9 := N_s1.out; omega), eq_false (show ¬ ((n : Int) ≤ se) by have h9 := N_s2.out; omega), eq_false (show ¬ (gp < 0) by have h9 := N_g1.out; omega), eq_false (show ¬ ((1000 : Int) < gp) by have h9 := N_g2.out; omega), eq_false (show ¬ (k.size = 0) by have h9 := N_k1.out; omega), eq_false (show ¬ (8 < k.size) by have h9 := N_k2.out; omega), ha, eq_false (show ¬ (16 ≤ opsR R se) by have h9 := N_o1.out; omega), eq_false (show ¬ (1099511627775 - gp < R.clock) by have h9 := N_z1.out; omega)])
    clear ha
    go_upto_region 21 with fail
    go_quiet (fail)
    go_wp2_with fail
    go_ret
    exact ⟨by rw [show cd = 0 from EC.out]; rfl, (by (repeat (first | exact K0.out | apply Same.drewN | apply Same.drew)); done)⟩
set_option maxRecDepth 100000 in
set_option maxHeartbeats 3200000 in
theorem refuse_3 {w : World} {rb n : Nat} {fl : Int} {R : Rr} {a : Option Addr} {cap : Nat} {ev : Value} (h : Rd w rb n fl R a cap ev) (hs : Sml R) (se gp : Int) (k v : ByteArray) (hk : k.size ≤ maxLen) (hv : v.size ≤ maxLen) : RfP w rb n R ⟨3, se, gp, k, v⟩ := by
  have HH : Hid (Rd w rb n fl R a cap ev) := h
  have hn := hs.n
  have hks : (k.size : Int) ≤ 9223372036854775807 := by unfold maxLen at hk; omega
  have hvs : (v.size : Int) ≤ 9223372036854775807 := by unfold maxLen at hv; omega
  have K0 : Hid (Kept w (w.alloc (stO ⟨3, se, gp, k, v⟩))) := (Same.refl _ w).alloc _
  have G0 : Hid _ := heap_new w (stO ⟨3, se, gp, k, v⟩)
  have HAC : Hid _ := ractive15 (h.on K0.out) hn se
  have HRD : Hid (Rd (w.alloc (stO ⟨3, se, gp, k, v⟩)) rb n fl R a cap ev) := h.on K0.out
  have HIN : Hid (∀ q, rAct R.all se = some q → q < R.all.length) := fun q hq => by
    obtain ⟨r, h1, -⟩ := rAct_in hq
    exact (List.getElem?_eq_some_iff.1 h1).1
  unfold RfP
  obtain ⟨cd, ecd⟩ : ∃ cd, cd = rCode n R ⟨3, se, gp, k, v⟩ := ⟨_, rfl⟩
  rw [← ecd]
  have ECD : Hid (cd = rCode n R ⟨3, se, gp, k, v⟩) := ecd
  unfold stA
  simp only
  clear h ecd hk hv
  go_enter Try.func61, Try.ntmps61
  go_upto_region 1 with fail
  generalize w.alloc (stO ⟨3, se, gp, k, v⟩) = W at *
  generalize w.heap.size = g at *
  obtain ⟨c0, c1, c2, c3, c4⟩ := st_cells G0.out
  have hg := lt_of_heap G0.out
  simp only at c0 c1 c2 c3 c4
  have m0 := HRD.out.c0
  have m2 := HRD.out.c2
  have m3 := HRD.out.c3
  have hrl := HRD.out.lt
  obtain ⟨L, eL⟩ : ∃ L, L = R.all.length := ⟨_, rfl⟩
  rw [← eL] at hn m3
  have EL : Hid (L = R.all.length) := eL
  clear eL
  go_wp2_with fail
  refine Calls.mono HAC.out ?_
  rintro r2 w2 ⟨rfl, e2⟩
  subst e2
  clear HAC
  by_cases s1 : se < 0
  · have f1 : decide (se < 0) = true := decide_eq_true s1
    have EC : Hid (cd = 152) := (show cd = _ from ECD.out).trans (by simp [rCode, codeB, s1])
    go_upto_region 5 with fail
    go_quiet (fail)
    go_wp2_with fail
    go_ret
    exact ⟨by rw [show cd = 152 from EC.out]; rfl, (by (repeat (first | exact K0.out | apply Same.drewN | apply Same.drew)); done)⟩
  have N_s1 : Hid (¬ (se < 0)) := s1
  have f1 : decide (se < 0) = false := decide_eq_false s1
  by_cases s2 : (n : Int) ≤ se
  · have f2 : decide ((n : Int) ≤ se) = true := decide_eq_true s2
    have EC : Hid (cd = 152) := (show cd = _ from ECD.out).trans (by simp [rCode, codeB, s2])
    go_upto_region 5 with fail
    go_quiet (fail)
    go_wp2_with fail
    go_ret
    exact ⟨by rw [show cd = 152 from EC.out]; rfl, (by (repeat (first | exact K0.out | apply Same.drewN | apply Same.drew)); done)⟩
  have N_s2 : Hid (¬ ((n : Int) ≤ se)) := s2
  have f2 : decide ((n : Int) ≤ se) = false := decide_eq_false s2
  go_upto_region 5 with fail
  go_quiet (fail)
  clear m0
  by_cases g1 : gp < 0
  · have f_g1 : decide (gp < 0) = true := decide_eq_true g1
    have EC : Hid (cd = 153) := (show cd = _ from ECD.out).trans (by simp [rCode, codeB, eq_false (show ¬ (se < 0) by have h9 := N_s1.out; omega), eq_false (show ¬ ((n : Int) ≤ se) by have h9 := N_s2.out; omega), g1])
    go_wp2_with fail
    go_ret
    exact ⟨by rw [show cd = 153 from EC.out]; rfl, (by (repeat (first | exact K0.out | apply Same.drewN | apply Same.drew)); done)⟩
  have N_g1 : Hid (¬ (gp < 0)) := g1
  have f_g1 : decide (gp < 0) = false := decide_eq_false g1
  by_cases g2 : (1000 : Int) < gp
  · have f_g2 : decide ((1000 : Int) < gp) = true := decide_eq_true g2
    have EC : Hid (cd = 153) := (show cd = _ from ECD.out).trans (by simp [rCode, codeB, eq_false (show ¬ (se < 0) by have h9 := N_s1.out; omega), eq_false (show ¬ ((n : Int) ≤ se) by have h9 := N_s2.out; omega), eq_false (show ¬ (gp < 0) by have h9 := N_g1.out; omega), g2])
    go_wp2_with fail
    go_ret
    exact ⟨by rw [show cd = 153 from EC.out]; rfl, (by (repeat (first | exact K0.out | apply Same.drewN | apply Same.drew)); done)⟩
  have N_g2 : Hid (¬ ((1000 : Int) < gp)) := g2
  have f_g2 : decide ((1000 : Int) < gp) = false := decide_eq_false g2
  by_cases k1 : k.size = 0
  · have f_k1 : ((k.size : Int) == 0) = true := by simp [k1]
    have f_k2 : k = ByteArray.empty := ByteArray.size_eq_zero_iff.1 k1
    have EC : Hid (cd = 130) := (show cd = _ from ECD.out).trans (by simp [rCode, codeB, isO, eq_false (show ¬ (se < 0) by have h9 := N_s1.out; omega), eq_false (show ¬ ((n : Int) ≤ se) by have h9 := N_s2.out; omega), eq_false (show ¬ (gp < 0) by have h9 := N_g1.out; omega), eq_false (show ¬ ((1000 : Int) < gp) by have h9 := N_g2.out; omega), k1])
    go_wp2_with fail
    go_ret
    exact ⟨by rw [show cd = 130 from EC.out]; rfl, (by (repeat (first | exact K0.out | apply Same.drewN | apply Same.drew)); done)⟩
  have N_k1 : Hid (¬ (k.size = 0)) := k1
  have f_k1 : ((k.size : Int) == 0) = false := by simp [k1]
  have f_k2 : ¬ k = ByteArray.empty := fun e9 => k1 (by rw [e9]; rfl)
  by_cases k2 : 8 < k.size
  · have f_k3 : decide ((8 : Int) < (k.size : Int)) = true := decide_eq_true (by omega)
    have f_k4 : (8 : Int) < (k.size : Int) := by omega
    have EC : Hid (cd = 130) := (show cd = _ from ECD.out).trans (by simp [rCode, codeB, isO, eq_false (show ¬ (se < 0) by have h9 := N_s1.out; omega), eq_false (show ¬ ((n : Int) ≤ se) by have h9 := N_s2.out; omega), eq_false (show ¬ (gp < 0) by have h9 := N_g1.out; omega), eq_false (show ¬ ((1000 : Int) < gp) by have h9 := N_g2.out; omega), eq_false (show ¬ (k.size = 0) by have h9 := N_k1.out; omega), k2])
    go_wp2_with fail
    go_ret
    exact ⟨by rw [show cd = 130 from EC.out]; rfl, (by (repeat (first | exact K0.out | apply Same.drewN | apply Same.drew)); done)⟩
  have N_k2 : Hid (¬ (8 < k.size)) := k2
  have f_k3 : decide ((8 : Int) < (k.size : Int)) = false := decide_eq_false (by omega)
  have f_k4 : ¬ (8 : Int) < (k.size : Int) := by omega
  by_cases v1 : 16 < v.size
  · have f_v3 : decide ((16 : Int) < (v.size : Int)) = true := decide_eq_true (by omega)
    have f_v4 : (16 : Int) < (v.size : Int) := by omega
    have EC : Hid (cd = 157) := (show cd = _ from ECD.out).trans (by simp [rCode, codeB, isO, eq_false (show ¬ (se < 0) by have h9 := N_s1.out; omega), eq_false (show ¬ ((n : Int) ≤ se) by have h9 := N_s2.out; omega), eq_false (show ¬ (gp < 0) by have h9 := N_g1.out; omega), eq_false (show ¬ ((1000 : Int) < gp) by have h9 := N_g2.out; omega), eq_false (show ¬ (k.size = 0) by have h9 := N_k1.out; omega), eq_false (show ¬ (8 < k.size) by have h9 := N_k2.out; omega), v1])
    go_wp2_with fail
    go_ret
    exact ⟨by rw [show cd = 157 from EC.out]; rfl, (by (repeat (first | exact K0.out | apply Same.drewN | apply Same.drew)); done)⟩
  have N_v1 : Hid (¬ (16 < v.size)) := v1
  have f_v3 : decide ((16 : Int) < (v.size : Int)) = false := decide_eq_false (by omega)
  have f_v4 : ¬ (16 : Int) < (v.size : Int) := by omega
  cases ha : rAct R.all se with
  | none =>
    have EC : Hid (cd = 156) := (show cd = _ from ECD.out).trans (by simp [rCode, codeB, isO, eq_false (show ¬ (se < 0) by have h9 := N_s1.out; omega), eq_false (show ¬ ((n : Int) ≤ se) by have h9 := N_s2.out; omega), eq_false (show ¬ (gp < 0) by have h9 := N_g1.out; omega), eq_false (show ¬ ((1000 : Int) < gp) by have h9 := N_g2.out; omega), eq_false (show ¬ (k.size = 0) by have h9 := N_k1.out; omega), eq_false (show ¬ (8 < k.size) by have h9 := N_k2.out; omega), eq_false (show ¬ (16 < v.size) by have h9 := N_v1.out; omega), ha])
    rw [show ix none = (-1 : Int) from rfl]
    clear ha
    go_wp2_with fail
    go_ret
    exact ⟨by rw [show cd = 156 from EC.out]; rfl, (by (repeat (first | exact K0.out | apply Same.drewN | apply Same.drew)); done)⟩
  | some q =>
    have hq := HIN.out q ha
    have dq1 : decide ((q : Int) < 0) = false := decide_eq_false (by omega)
    have dq2 : ¬ ((q : Int) < 0) := by omega
    have dq4 : (0 : Int) ≤ (q : Int) := by omega
    have dq3 : (q : Int) < (L : Int) := by have h9 : L = R.all.length := EL.out; omega
    rw [show ix (some q) = (q : Int) from rfl]
    obtain ⟨b, off, oa, oc, ta, tc, rfl, hb, hR⟩ := HRD.out.run q _ (gR_at hq)
    have p7 := hR.c7
    have hol := (hs.o _ (List.mem_of_getElem? (gR_at hq))).1
    have HO1 : Hid (opsR R se = (gR R.all q).t.ops.length) := by
      show opsR R se = _
      unfold opsR
      rw [ha]
    clear hR
    generalize (gR R.all q).t.ops.length = ol at *
    by_cases o1 : 16 ≤ ol
    · have f_o : decide ((16 : Int) ≤ (ol : Int)) = true := decide_eq_true (by omega)
      have f_o2 : (16 : Int) ≤ (ol : Int) := by omega
      have o1' : 16 ≤ opsR R se := by rw [show opsR R se = _ from HO1.out]; exact o1
      have EC : Hid (cd = 63) := (show cd = _ from ECD.out).trans (by simp [rCode, codeB, isO, eq_false (show ¬ (se < 0) by have h9 := N_s1.out; omega), eq_false (show ¬ ((n : Int) ≤ se) by have h9 := N_s2.out; omega), eq_false (show ¬ (gp < 0) by have h9 := N_g1.out; omega), eq_false (show ¬ ((1000 : Int) < gp) by have h9 := N_g2.out; omega), eq_false (show ¬ (k.size = 0) by have h9 := N_k1.out; omega), eq_false (show ¬ (8 < k.size) by have h9 := N_k2.out; omega), eq_false (show ¬ (16 < v.size) by have h9 := N_v1.out; omega), ha, o1'])
      clear ha o1'
      go_wp2_with fail
      go_ret
      exact ⟨by rw [show cd = 63 from EC.out]; rfl, (by (repeat (first | exact K0.out | apply Same.drewN | apply Same.drew)); done)⟩
    have f_o : decide ((16 : Int) ≤ (ol : Int)) = false := decide_eq_false (by omega)
    have f_o2 : ¬ (16 : Int) ≤ (ol : Int) := by omega
    have N_o1 : Hid (¬ (16 ≤ opsR R se)) := by
      show ¬ (16 ≤ opsR R se)
      rw [show opsR R se = _ from HO1.out]
      exact o1
    by_cases z1 : 1099511627775 - gp < R.clock
    · have f_z : decide (1099511627775 - gp < R.clock) = true := decide_eq_true z1
      have EC : Hid (cd = 154) := (show cd = _ from ECD.out).trans (by simp [rCode, codeB, isO, eq_false (show ¬ (se < 0) by have h9 := N_s1.out; omega), eq_false (show ¬ ((n : Int) ≤ se) by have h9 := N_s2.out; omega), eq_false (show ¬ (gp < 0) by have h9 := N_g1.out; omega), eq_false (show ¬ ((1000 : Int) < gp) by have h9 := N_g2.out; omega), eq_false (show ¬ (k.size = 0) by have h9 := N_k1.out; omega), eq_false (show ¬ (8 < k.size) by have h9 := N_k2.out; omega), eq_false (show ¬ (16 < v.size) by have h9 := N_v1.out; omega), ha, eq_false (show ¬ (16 ≤ opsR R se) by have h9 := N_o1.out; omega), z1])
      clear ha
      go_upto_region 21 with fail
      go_quiet (fail)
      go_wp2_with fail
      go_ret
      exact ⟨by rw [show cd = 154 from EC.out]; rfl, (by (repeat (first | exact K0.out | apply Same.drewN | apply Same.drew)); done)⟩
    have N_z1 : Hid (¬ (1099511627775 - gp < R.clock)) := z1
    have f_z : decide (1099511627775 - gp < R.clock) = false := decide_eq_false z1
    have EC : Hid (cd = 0) := (show cd = _ from ECD.out).trans (by simp [rCode, codeB, isO, eq_false (show ¬ (se < 0) by have h9 := N_s1.out; omega), eq_false (show ¬ ((n : Int) ≤ se) by have h9 := N_s2.out; omega), eq_false (show ¬ (gp < 0) by have h9 := N_g1.out; omega), eq_false (show ¬ ((1000 : Int) < gp) by have h9 := N_g2.out; omega), eq_false (show ¬ (k.size = 0) by have h9 := N_k1.out; omega), eq_false (show ¬ (8 < k.size) by have h9 := N_k2.out; omega), eq_false (show ¬ (16 < v.size) by have h9 := N_v1.out; omega), ha, eq_false (show ¬ (16 ≤ opsR R se) by have h9 := N_o1.out; omega), eq_false (show ¬ (1099511627775 - gp < R.clock) by have h9 := N_z1.out; omega)])
    clear ha
    go_upto_region 21 with fail
    go_quiet (fail)
    go_wp2_with fail
    go_ret
    exact ⟨by rw [show cd = 0 from EC.out]; rfl, (by (repeat (first | exact K0.out | apply Same.drewN | apply Same.drew)); done)⟩
set_option maxRecDepth 100000 in
set_option maxHeartbeats 3200000 in
theorem refuse_4 {w : World} {rb n : Nat} {fl : Int} {R : Rr} {a : Option Addr} {cap : Nat} {ev : Value} (h : Rd w rb n fl R a cap ev) (hs : Sml R) (se gp : Int) (k v : ByteArray) (hk : k.size ≤ maxLen) (hv : v.size ≤ maxLen) : RfP w rb n R ⟨4, se, gp, k, v⟩ := by
  have HH : Hid (Rd w rb n fl R a cap ev) := h
  have hn := hs.n
  have hks : (k.size : Int) ≤ 9223372036854775807 := by unfold maxLen at hk; omega
  have hvs : (v.size : Int) ≤ 9223372036854775807 := by unfold maxLen at hv; omega
  have K0 : Hid (Kept w (w.alloc (stO ⟨4, se, gp, k, v⟩))) := (Same.refl _ w).alloc _
  have G0 : Hid _ := heap_new w (stO ⟨4, se, gp, k, v⟩)
  have HAC : Hid _ := ractive15 (h.on K0.out) hn se
  have HRD : Hid (Rd (w.alloc (stO ⟨4, se, gp, k, v⟩)) rb n fl R a cap ev) := h.on K0.out
  have HIN : Hid (∀ q, rAct R.all se = some q → q < R.all.length) := fun q hq => by
    obtain ⟨r, h1, -⟩ := rAct_in hq
    exact (List.getElem?_eq_some_iff.1 h1).1
  unfold RfP
  obtain ⟨cd, ecd⟩ : ∃ cd, cd = rCode n R ⟨4, se, gp, k, v⟩ := ⟨_, rfl⟩
  rw [← ecd]
  have ECD : Hid (cd = rCode n R ⟨4, se, gp, k, v⟩) := ecd
  unfold stA
  simp only
  clear h ecd hk hv
  go_enter Try.func61, Try.ntmps61
  go_upto_region 1 with fail
  generalize w.alloc (stO ⟨4, se, gp, k, v⟩) = W at *
  generalize w.heap.size = g at *
  obtain ⟨c0, c1, c2, c3, c4⟩ := st_cells G0.out
  have hg := lt_of_heap G0.out
  simp only at c0 c1 c2 c3 c4
  have m0 := HRD.out.c0
  have m2 := HRD.out.c2
  have m3 := HRD.out.c3
  have hrl := HRD.out.lt
  obtain ⟨L, eL⟩ : ∃ L, L = R.all.length := ⟨_, rfl⟩
  rw [← eL] at hn m3
  have EL : Hid (L = R.all.length) := eL
  clear eL
  go_wp2_with fail
  refine Calls.mono HAC.out ?_
  rintro r2 w2 ⟨rfl, e2⟩
  subst e2
  clear HAC
  by_cases s1 : se < 0
  · have f1 : decide (se < 0) = true := decide_eq_true s1
    have EC : Hid (cd = 152) := (show cd = _ from ECD.out).trans (by simp [rCode, codeB, s1])
    go_upto_region 5 with fail
    go_quiet (fail)
    go_wp2_with fail
    go_ret
    exact ⟨by rw [show cd = 152 from EC.out]; rfl, (by (repeat (first | exact K0.out | apply Same.drewN | apply Same.drew)); done)⟩
  have N_s1 : Hid (¬ (se < 0)) := s1
  have f1 : decide (se < 0) = false := decide_eq_false s1
  by_cases s2 : (n : Int) ≤ se
  · have f2 : decide ((n : Int) ≤ se) = true := decide_eq_true s2
    have EC : Hid (cd = 152) := (show cd = _ from ECD.out).trans (by simp [rCode, codeB, s2])
    go_upto_region 5 with fail
    go_quiet (fail)
    go_wp2_with fail
    go_ret
    exact ⟨by rw [show cd = 152 from EC.out]; rfl, (by (repeat (first | exact K0.out | apply Same.drewN | apply Same.drew)); done)⟩
  have N_s2 : Hid (¬ ((n : Int) ≤ se)) := s2
  have f2 : decide ((n : Int) ≤ se) = false := decide_eq_false s2
  go_upto_region 5 with fail
  go_quiet (fail)
  clear m0
  by_cases g1 : gp < 0
  · have f_g1 : decide (gp < 0) = true := decide_eq_true g1
    have EC : Hid (cd = 153) := (show cd = _ from ECD.out).trans (by simp [rCode, codeB, eq_false (show ¬ (se < 0) by have h9 := N_s1.out; omega), eq_false (show ¬ ((n : Int) ≤ se) by have h9 := N_s2.out; omega), g1])
    go_wp2_with fail
    go_ret
    exact ⟨by rw [show cd = 153 from EC.out]; rfl, (by (repeat (first | exact K0.out | apply Same.drewN | apply Same.drew)); done)⟩
  have N_g1 : Hid (¬ (gp < 0)) := g1
  have f_g1 : decide (gp < 0) = false := decide_eq_false g1
  by_cases g2 : (1000 : Int) < gp
  · have f_g2 : decide ((1000 : Int) < gp) = true := decide_eq_true g2
    have EC : Hid (cd = 153) := (show cd = _ from ECD.out).trans (by simp [rCode, codeB, eq_false (show ¬ (se < 0) by have h9 := N_s1.out; omega), eq_false (show ¬ ((n : Int) ≤ se) by have h9 := N_s2.out; omega), eq_false (show ¬ (gp < 0) by have h9 := N_g1.out; omega), g2])
    go_wp2_with fail
    go_ret
    exact ⟨by rw [show cd = 153 from EC.out]; rfl, (by (repeat (first | exact K0.out | apply Same.drewN | apply Same.drew)); done)⟩
  have N_g2 : Hid (¬ ((1000 : Int) < gp)) := g2
  have f_g2 : decide ((1000 : Int) < gp) = false := decide_eq_false g2
  by_cases k1 : k.size = 0
  · have f_k1 : ((k.size : Int) == 0) = true := by simp [k1]
    have f_k2 : k = ByteArray.empty := ByteArray.size_eq_zero_iff.1 k1
    have EC : Hid (cd = 130) := (show cd = _ from ECD.out).trans (by simp [rCode, codeB, isO, eq_false (show ¬ (se < 0) by have h9 := N_s1.out; omega), eq_false (show ¬ ((n : Int) ≤ se) by have h9 := N_s2.out; omega), eq_false (show ¬ (gp < 0) by have h9 := N_g1.out; omega), eq_false (show ¬ ((1000 : Int) < gp) by have h9 := N_g2.out; omega), k1])
    go_wp2_with fail
    go_ret
    exact ⟨by rw [show cd = 130 from EC.out]; rfl, (by (repeat (first | exact K0.out | apply Same.drewN | apply Same.drew)); done)⟩
  have N_k1 : Hid (¬ (k.size = 0)) := k1
  have f_k1 : ((k.size : Int) == 0) = false := by simp [k1]
  have f_k2 : ¬ k = ByteArray.empty := fun e9 => k1 (by rw [e9]; rfl)
  by_cases k2 : 8 < k.size
  · have f_k3 : decide ((8 : Int) < (k.size : Int)) = true := decide_eq_true (by omega)
    have f_k4 : (8 : Int) < (k.size : Int) := by omega
    have EC : Hid (cd = 130) := (show cd = _ from ECD.out).trans (by simp [rCode, codeB, isO, eq_false (show ¬ (se < 0) by have h9 := N_s1.out; omega), eq_false (show ¬ ((n : Int) ≤ se) by have h9 := N_s2.out; omega), eq_false (show ¬ (gp < 0) by have h9 := N_g1.out; omega), eq_false (show ¬ ((1000 : Int) < gp) by have h9 := N_g2.out; omega), eq_false (show ¬ (k.size = 0) by have h9 := N_k1.out; omega), k2])
    go_wp2_with fail
    go_ret
    exact ⟨by rw [show cd = 130 from EC.out]; rfl, (by (repeat (first | exact K0.out | apply Same.drewN | apply Same.drew)); done)⟩
  have N_k2 : Hid (¬ (8 < k.size)) := k2
  have f_k3 : decide ((8 : Int) < (k.size : Int)) = false := decide_eq_false (by omega)
  have f_k4 : ¬ (8 : Int) < (k.size : Int) := by omega
  cases ha : rAct R.all se with
  | none =>
    have EC : Hid (cd = 156) := (show cd = _ from ECD.out).trans (by simp [rCode, codeB, isO, eq_false (show ¬ (se < 0) by have h9 := N_s1.out; omega), eq_false (show ¬ ((n : Int) ≤ se) by have h9 := N_s2.out; omega), eq_false (show ¬ (gp < 0) by have h9 := N_g1.out; omega), eq_false (show ¬ ((1000 : Int) < gp) by have h9 := N_g2.out; omega), eq_false (show ¬ (k.size = 0) by have h9 := N_k1.out; omega), eq_false (show ¬ (8 < k.size) by have h9 := N_k2.out; omega), ha])
    rw [show ix none = (-1 : Int) from rfl]
    clear ha
    go_wp2_with fail
    go_ret
    exact ⟨by rw [show cd = 156 from EC.out]; rfl, (by (repeat (first | exact K0.out | apply Same.drewN | apply Same.drew)); done)⟩
  | some q =>
    have hq := HIN.out q ha
    have dq1 : decide ((q : Int) < 0) = false := decide_eq_false (by omega)
    have dq2 : ¬ ((q : Int) < 0) := by omega
    have dq4 : (0 : Int) ≤ (q : Int) := by omega
    have dq3 : (q : Int) < (L : Int) := by have h9 : L = R.all.length := EL.out; omega
    rw [show ix (some q) = (q : Int) from rfl]
    obtain ⟨b, off, oa, oc, ta, tc, rfl, hb, hR⟩ := HRD.out.run q _ (gR_at hq)
    have p7 := hR.c7
    have hol := (hs.o _ (List.mem_of_getElem? (gR_at hq))).1
    have HO1 : Hid (opsR R se = (gR R.all q).t.ops.length) := by
      show opsR R se = _
      unfold opsR
      rw [ha]
    clear hR
    generalize (gR R.all q).t.ops.length = ol at *
    by_cases o1 : 16 ≤ ol
    · have f_o : decide ((16 : Int) ≤ (ol : Int)) = true := decide_eq_true (by omega)
      have f_o2 : (16 : Int) ≤ (ol : Int) := by omega
      have o1' : 16 ≤ opsR R se := by rw [show opsR R se = _ from HO1.out]; exact o1
      have EC : Hid (cd = 63) := (show cd = _ from ECD.out).trans (by simp [rCode, codeB, isO, eq_false (show ¬ (se < 0) by have h9 := N_s1.out; omega), eq_false (show ¬ ((n : Int) ≤ se) by have h9 := N_s2.out; omega), eq_false (show ¬ (gp < 0) by have h9 := N_g1.out; omega), eq_false (show ¬ ((1000 : Int) < gp) by have h9 := N_g2.out; omega), eq_false (show ¬ (k.size = 0) by have h9 := N_k1.out; omega), eq_false (show ¬ (8 < k.size) by have h9 := N_k2.out; omega), ha, o1'])
      clear ha o1'
      go_wp2_with fail
      go_ret
      exact ⟨by rw [show cd = 63 from EC.out]; rfl, (by (repeat (first | exact K0.out | apply Same.drewN | apply Same.drew)); done)⟩
    have f_o : decide ((16 : Int) ≤ (ol : Int)) = false := decide_eq_false (by omega)
    have f_o2 : ¬ (16 : Int) ≤ (ol : Int) := by omega
    have N_o1 : Hid (¬ (16 ≤ opsR R se)) := by
      show ¬ (16 ≤ opsR R se)
      rw [show opsR R se = _ from HO1.out]
      exact o1
    by_cases z1 : 1099511627775 - gp < R.clock
    · have f_z : decide (1099511627775 - gp < R.clock) = true := decide_eq_true z1
      have EC : Hid (cd = 154) := (show cd = _ from ECD.out).trans (by simp [rCode, codeB, isO, eq_false (show ¬ (se < 0) by have h9 := N_s1.out; omega), eq_false (show ¬ ((n : Int) ≤ se) by have h9 := N_s2.out; omega), eq_false (show ¬ (gp < 0) by have h9 := N_g1.out; omega), eq_false (show ¬ ((1000 : Int) < gp) by have h9 := N_g2.out; omega), eq_false (show ¬ (k.size = 0) by have h9 := N_k1.out; omega), eq_false (show ¬ (8 < k.size) by have h9 := N_k2.out; omega), ha, eq_false (show ¬ (16 ≤ opsR R se) by have h9 := N_o1.out; omega), z1])
      clear ha
      go_upto_region 21 with fail
      go_quiet (fail)
      go_wp2_with fail
      go_ret
      exact ⟨by rw [show cd = 154 from EC.out]; rfl, (by (repeat (first | exact K0.out | apply Same.drewN | apply Same.drew)); done)⟩
    have N_z1 : Hid (¬ (1099511627775 - gp < R.clock)) := z1
    have f_z : decide (1099511627775 - gp < R.clock) = false := decide_eq_false z1
    have EC : Hid (cd = 0) := (show cd = _ from ECD.out).trans (by simp [rCode, codeB, isO, eq_false (show ¬ (se < 0) by have h9 := N_s1.out; omega), eq_false (show ¬ ((n : Int) ≤ se) by have h9 := N_s2.out; omega), eq_false (show ¬ (gp < 0) by have h9 := N_g1.out; omega), eq_false (show ¬ ((1000 : Int) < gp) by have h9 := N_g2.out; omega), eq_false (show ¬ (k.size = 0) by have h9 := N_k1.out; omega), eq_false (show ¬ (8 < k.size) by have h9 := N_k2.out; omega), ha, eq_false (show ¬ (16 ≤ opsR R se) by have h9 := N_o1.out; omega), eq_false (show ¬ (1099511627775 - gp < R.clock) by have h9 := N_z1.out; omega)])
    clear ha
    go_upto_region 21 with fail
    go_quiet (fail)
    go_wp2_with fail
    go_ret
    exact ⟨by rw [show cd = 0 from EC.out]; rfl, (by (repeat (first | exact K0.out | apply Same.drewN | apply Same.drew)); done)⟩
set_option maxRecDepth 100000 in
set_option maxHeartbeats 3200000 in
theorem refuse_5 {w : World} {rb n : Nat} {fl : Int} {R : Rr} {a : Option Addr} {cap : Nat} {ev : Value} (h : Rd w rb n fl R a cap ev) (hs : Sml R) (se gp : Int) (k v : ByteArray) (hk : k.size ≤ maxLen) (hv : v.size ≤ maxLen) : RfP w rb n R ⟨5, se, gp, k, v⟩ := by
  have HH : Hid (Rd w rb n fl R a cap ev) := h
  have hn := hs.n
  have hks : (k.size : Int) ≤ 9223372036854775807 := by unfold maxLen at hk; omega
  have hvs : (v.size : Int) ≤ 9223372036854775807 := by unfold maxLen at hv; omega
  have K0 : Hid (Kept w (w.alloc (stO ⟨5, se, gp, k, v⟩))) := (Same.refl _ w).alloc _
  have G0 : Hid _ := heap_new w (stO ⟨5, se, gp, k, v⟩)
  have HAC : Hid _ := ractive15 (h.on K0.out) hn se
  have HRD : Hid (Rd (w.alloc (stO ⟨5, se, gp, k, v⟩)) rb n fl R a cap ev) := h.on K0.out
  have HIN : Hid (∀ q, rAct R.all se = some q → q < R.all.length) := fun q hq => by
    obtain ⟨r, h1, -⟩ := rAct_in hq
    exact (List.getElem?_eq_some_iff.1 h1).1
  unfold RfP
  obtain ⟨cd, ecd⟩ : ∃ cd, cd = rCode n R ⟨5, se, gp, k, v⟩ := ⟨_, rfl⟩
  rw [← ecd]
  have ECD : Hid (cd = rCode n R ⟨5, se, gp, k, v⟩) := ecd
  unfold stA
  simp only
  clear h ecd hk hv
  go_enter Try.func61, Try.ntmps61
  go_upto_region 1 with fail
  generalize w.alloc (stO ⟨5, se, gp, k, v⟩) = W at *
  generalize w.heap.size = g at *
  obtain ⟨c0, c1, c2, c3, c4⟩ := st_cells G0.out
  have hg := lt_of_heap G0.out
  simp only at c0 c1 c2 c3 c4
  have m0 := HRD.out.c0
  have m2 := HRD.out.c2
  have m3 := HRD.out.c3
  have hrl := HRD.out.lt
  obtain ⟨L, eL⟩ : ∃ L, L = R.all.length := ⟨_, rfl⟩
  rw [← eL] at hn m3
  have EL : Hid (L = R.all.length) := eL
  clear eL
  go_wp2_with fail
  refine Calls.mono HAC.out ?_
  rintro r2 w2 ⟨rfl, e2⟩
  subst e2
  clear HAC
  by_cases s1 : se < 0
  · have f1 : decide (se < 0) = true := decide_eq_true s1
    have EC : Hid (cd = 152) := (show cd = _ from ECD.out).trans (by simp [rCode, codeB, s1])
    go_upto_region 5 with fail
    go_quiet (fail)
    go_wp2_with fail
    go_ret
    exact ⟨by rw [show cd = 152 from EC.out]; rfl, (by (repeat (first | exact K0.out | apply Same.drewN | apply Same.drew)); done)⟩
  have N_s1 : Hid (¬ (se < 0)) := s1
  have f1 : decide (se < 0) = false := decide_eq_false s1
  by_cases s2 : (n : Int) ≤ se
  · have f2 : decide ((n : Int) ≤ se) = true := decide_eq_true s2
    have EC : Hid (cd = 152) := (show cd = _ from ECD.out).trans (by simp [rCode, codeB, s2])
    go_upto_region 5 with fail
    go_quiet (fail)
    go_wp2_with fail
    go_ret
    exact ⟨by rw [show cd = 152 from EC.out]; rfl, (by (repeat (first | exact K0.out | apply Same.drewN | apply Same.drew)); done)⟩
  have N_s2 : Hid (¬ ((n : Int) ≤ se)) := s2
  have f2 : decide ((n : Int) ≤ se) = false := decide_eq_false s2
  go_upto_region 5 with fail
  go_quiet (fail)
  clear m0
  by_cases g1 : gp < 0
  · have f_g1 : decide (gp < 0) = true := decide_eq_true g1
    have EC : Hid (cd = 153) := (show cd = _ from ECD.out).trans (by simp [rCode, codeB, eq_false (show ¬ (se < 0) by have h9 := N_s1.out; omega), eq_false (show ¬ ((n : Int) ≤ se) by have h9 := N_s2.out; omega), g1])
    go_wp2_with fail
    go_ret
    exact ⟨by rw [show cd = 153 from EC.out]; rfl, (by (repeat (first | exact K0.out | apply Same.drewN | apply Same.drew)); done)⟩
  have N_g1 : Hid (¬ (gp < 0)) := g1
  have f_g1 : decide (gp < 0) = false := decide_eq_false g1
  by_cases g2 : (1000 : Int) < gp
  · have f_g2 : decide ((1000 : Int) < gp) = true := decide_eq_true g2
    have EC : Hid (cd = 153) := (show cd = _ from ECD.out).trans (by simp [rCode, codeB, eq_false (show ¬ (se < 0) by have h9 := N_s1.out; omega), eq_false (show ¬ ((n : Int) ≤ se) by have h9 := N_s2.out; omega), eq_false (show ¬ (gp < 0) by have h9 := N_g1.out; omega), g2])
    go_wp2_with fail
    go_ret
    exact ⟨by rw [show cd = 153 from EC.out]; rfl, (by (repeat (first | exact K0.out | apply Same.drewN | apply Same.drew)); done)⟩
  have N_g2 : Hid (¬ ((1000 : Int) < gp)) := g2
  have f_g2 : decide ((1000 : Int) < gp) = false := decide_eq_false g2
  cases ha : rAct R.all se with
  | none =>
    have EC : Hid (cd = 156) := (show cd = _ from ECD.out).trans (by simp [rCode, codeB, isO, eq_false (show ¬ (se < 0) by have h9 := N_s1.out; omega), eq_false (show ¬ ((n : Int) ≤ se) by have h9 := N_s2.out; omega), eq_false (show ¬ (gp < 0) by have h9 := N_g1.out; omega), eq_false (show ¬ ((1000 : Int) < gp) by have h9 := N_g2.out; omega), ha])
    rw [show ix none = (-1 : Int) from rfl]
    clear ha
    go_wp2_with fail
    go_ret
    exact ⟨by rw [show cd = 156 from EC.out]; rfl, (by (repeat (first | exact K0.out | apply Same.drewN | apply Same.drew)); done)⟩
  | some q =>
    have hq := HIN.out q ha
    have dq1 : decide ((q : Int) < 0) = false := decide_eq_false (by omega)
    have dq2 : ¬ ((q : Int) < 0) := by omega
    have dq4 : (0 : Int) ≤ (q : Int) := by omega
    have dq3 : (q : Int) < (L : Int) := by have h9 : L = R.all.length := EL.out; omega
    rw [show ix (some q) = (q : Int) from rfl]
    by_cases z1 : 1099511627775 - gp < R.clock
    · have f_z : decide (1099511627775 - gp < R.clock) = true := decide_eq_true z1
      have EC : Hid (cd = 154) := (show cd = _ from ECD.out).trans (by simp [rCode, codeB, isO, eq_false (show ¬ (se < 0) by have h9 := N_s1.out; omega), eq_false (show ¬ ((n : Int) ≤ se) by have h9 := N_s2.out; omega), eq_false (show ¬ (gp < 0) by have h9 := N_g1.out; omega), eq_false (show ¬ ((1000 : Int) < gp) by have h9 := N_g2.out; omega), ha, z1])
      clear ha
      go_upto_region 21 with fail
      go_quiet (fail)
      go_wp2_with fail
      go_ret
      exact ⟨by rw [show cd = 154 from EC.out]; rfl, (by (repeat (first | exact K0.out | apply Same.drewN | apply Same.drew)); done)⟩
    have N_z1 : Hid (¬ (1099511627775 - gp < R.clock)) := z1
    have f_z : decide (1099511627775 - gp < R.clock) = false := decide_eq_false z1
    have EC : Hid (cd = 0) := (show cd = _ from ECD.out).trans (by simp [rCode, codeB, isO, eq_false (show ¬ (se < 0) by have h9 := N_s1.out; omega), eq_false (show ¬ ((n : Int) ≤ se) by have h9 := N_s2.out; omega), eq_false (show ¬ (gp < 0) by have h9 := N_g1.out; omega), eq_false (show ¬ ((1000 : Int) < gp) by have h9 := N_g2.out; omega), ha, eq_false (show ¬ (1099511627775 - gp < R.clock) by have h9 := N_z1.out; omega)])
    clear ha
    go_upto_region 21 with fail
    go_quiet (fail)
    go_wp2_with fail
    go_ret
    exact ⟨by rw [show cd = 0 from EC.out]; rfl, (by (repeat (first | exact K0.out | apply Same.drewN | apply Same.drew)); done)⟩
set_option maxRecDepth 100000 in
set_option maxHeartbeats 3200000 in
theorem refuse_6 {w : World} {rb n : Nat} {fl : Int} {R : Rr} {a : Option Addr} {cap : Nat} {ev : Value} (h : Rd w rb n fl R a cap ev) (hs : Sml R) (se gp : Int) (k v : ByteArray) (hk : k.size ≤ maxLen) (hv : v.size ≤ maxLen) : RfP w rb n R ⟨6, se, gp, k, v⟩ := by
  have HH : Hid (Rd w rb n fl R a cap ev) := h
  have hn := hs.n
  have hks : (k.size : Int) ≤ 9223372036854775807 := by unfold maxLen at hk; omega
  have hvs : (v.size : Int) ≤ 9223372036854775807 := by unfold maxLen at hv; omega
  have K0 : Hid (Kept w (w.alloc (stO ⟨6, se, gp, k, v⟩))) := (Same.refl _ w).alloc _
  have G0 : Hid _ := heap_new w (stO ⟨6, se, gp, k, v⟩)
  have HAC : Hid _ := ractive15 (h.on K0.out) hn se
  have HRD : Hid (Rd (w.alloc (stO ⟨6, se, gp, k, v⟩)) rb n fl R a cap ev) := h.on K0.out
  have HIN : Hid (∀ q, rAct R.all se = some q → q < R.all.length) := fun q hq => by
    obtain ⟨r, h1, -⟩ := rAct_in hq
    exact (List.getElem?_eq_some_iff.1 h1).1
  unfold RfP
  obtain ⟨cd, ecd⟩ : ∃ cd, cd = rCode n R ⟨6, se, gp, k, v⟩ := ⟨_, rfl⟩
  rw [← ecd]
  have ECD : Hid (cd = rCode n R ⟨6, se, gp, k, v⟩) := ecd
  unfold stA
  simp only
  clear h ecd hk hv
  go_enter Try.func61, Try.ntmps61
  go_upto_region 1 with fail
  generalize w.alloc (stO ⟨6, se, gp, k, v⟩) = W at *
  generalize w.heap.size = g at *
  obtain ⟨c0, c1, c2, c3, c4⟩ := st_cells G0.out
  have hg := lt_of_heap G0.out
  simp only at c0 c1 c2 c3 c4
  have m0 := HRD.out.c0
  have m2 := HRD.out.c2
  have m3 := HRD.out.c3
  have hrl := HRD.out.lt
  obtain ⟨L, eL⟩ : ∃ L, L = R.all.length := ⟨_, rfl⟩
  rw [← eL] at hn m3
  have EL : Hid (L = R.all.length) := eL
  clear eL
  go_wp2_with fail
  refine Calls.mono HAC.out ?_
  rintro r2 w2 ⟨rfl, e2⟩
  subst e2
  clear HAC
  by_cases s1 : se < 0
  · have f1 : decide (se < 0) = true := decide_eq_true s1
    have EC : Hid (cd = 152) := (show cd = _ from ECD.out).trans (by simp [rCode, codeB, s1])
    go_upto_region 5 with fail
    go_quiet (fail)
    go_wp2_with fail
    go_ret
    exact ⟨by rw [show cd = 152 from EC.out]; rfl, (by (repeat (first | exact K0.out | apply Same.drewN | apply Same.drew)); done)⟩
  have N_s1 : Hid (¬ (se < 0)) := s1
  have f1 : decide (se < 0) = false := decide_eq_false s1
  by_cases s2 : (n : Int) ≤ se
  · have f2 : decide ((n : Int) ≤ se) = true := decide_eq_true s2
    have EC : Hid (cd = 152) := (show cd = _ from ECD.out).trans (by simp [rCode, codeB, s2])
    go_upto_region 5 with fail
    go_quiet (fail)
    go_wp2_with fail
    go_ret
    exact ⟨by rw [show cd = 152 from EC.out]; rfl, (by (repeat (first | exact K0.out | apply Same.drewN | apply Same.drew)); done)⟩
  have N_s2 : Hid (¬ ((n : Int) ≤ se)) := s2
  have f2 : decide ((n : Int) ≤ se) = false := decide_eq_false s2
  go_upto_region 5 with fail
  go_quiet (fail)
  clear m0
  by_cases g1 : gp < 0
  · have f_g1 : decide (gp < 0) = true := decide_eq_true g1
    have EC : Hid (cd = 153) := (show cd = _ from ECD.out).trans (by simp [rCode, codeB, eq_false (show ¬ (se < 0) by have h9 := N_s1.out; omega), eq_false (show ¬ ((n : Int) ≤ se) by have h9 := N_s2.out; omega), g1])
    go_wp2_with fail
    go_ret
    exact ⟨by rw [show cd = 153 from EC.out]; rfl, (by (repeat (first | exact K0.out | apply Same.drewN | apply Same.drew)); done)⟩
  have N_g1 : Hid (¬ (gp < 0)) := g1
  have f_g1 : decide (gp < 0) = false := decide_eq_false g1
  by_cases g2 : (1000 : Int) < gp
  · have f_g2 : decide ((1000 : Int) < gp) = true := decide_eq_true g2
    have EC : Hid (cd = 153) := (show cd = _ from ECD.out).trans (by simp [rCode, codeB, eq_false (show ¬ (se < 0) by have h9 := N_s1.out; omega), eq_false (show ¬ ((n : Int) ≤ se) by have h9 := N_s2.out; omega), eq_false (show ¬ (gp < 0) by have h9 := N_g1.out; omega), g2])
    go_wp2_with fail
    go_ret
    exact ⟨by rw [show cd = 153 from EC.out]; rfl, (by (repeat (first | exact K0.out | apply Same.drewN | apply Same.drew)); done)⟩
  have N_g2 : Hid (¬ ((1000 : Int) < gp)) := g2
  have f_g2 : decide ((1000 : Int) < gp) = false := decide_eq_false g2
  cases ha : rAct R.all se with
  | none =>
    have EC : Hid (cd = 156) := (show cd = _ from ECD.out).trans (by simp [rCode, codeB, isO, eq_false (show ¬ (se < 0) by have h9 := N_s1.out; omega), eq_false (show ¬ ((n : Int) ≤ se) by have h9 := N_s2.out; omega), eq_false (show ¬ (gp < 0) by have h9 := N_g1.out; omega), eq_false (show ¬ ((1000 : Int) < gp) by have h9 := N_g2.out; omega), ha])
    rw [show ix none = (-1 : Int) from rfl]
    clear ha
    go_wp2_with fail
    go_ret
    exact ⟨by rw [show cd = 156 from EC.out]; rfl, (by (repeat (first | exact K0.out | apply Same.drewN | apply Same.drew)); done)⟩
  | some q =>
    have hq := HIN.out q ha
    have dq1 : decide ((q : Int) < 0) = false := decide_eq_false (by omega)
    have dq2 : ¬ ((q : Int) < 0) := by omega
    have dq4 : (0 : Int) ≤ (q : Int) := by omega
    have dq3 : (q : Int) < (L : Int) := by have h9 : L = R.all.length := EL.out; omega
    rw [show ix (some q) = (q : Int) from rfl]
    by_cases z1 : 1099511627775 - gp < R.clock
    · have f_z : decide (1099511627775 - gp < R.clock) = true := decide_eq_true z1
      have EC : Hid (cd = 154) := (show cd = _ from ECD.out).trans (by simp [rCode, codeB, isO, eq_false (show ¬ (se < 0) by have h9 := N_s1.out; omega), eq_false (show ¬ ((n : Int) ≤ se) by have h9 := N_s2.out; omega), eq_false (show ¬ (gp < 0) by have h9 := N_g1.out; omega), eq_false (show ¬ ((1000 : Int) < gp) by have h9 := N_g2.out; omega), ha, z1])
      clear ha
      go_upto_region 21 with fail
      go_quiet (fail)
      go_wp2_with fail
      go_ret
      exact ⟨by rw [show cd = 154 from EC.out]; rfl, (by (repeat (first | exact K0.out | apply Same.drewN | apply Same.drew)); done)⟩
    have N_z1 : Hid (¬ (1099511627775 - gp < R.clock)) := z1
    have f_z : decide (1099511627775 - gp < R.clock) = false := decide_eq_false z1
    have EC : Hid (cd = 0) := (show cd = _ from ECD.out).trans (by simp [rCode, codeB, isO, eq_false (show ¬ (se < 0) by have h9 := N_s1.out; omega), eq_false (show ¬ ((n : Int) ≤ se) by have h9 := N_s2.out; omega), eq_false (show ¬ (gp < 0) by have h9 := N_g1.out; omega), eq_false (show ¬ ((1000 : Int) < gp) by have h9 := N_g2.out; omega), ha, eq_false (show ¬ (1099511627775 - gp < R.clock) by have h9 := N_z1.out; omega)])
    clear ha
    go_upto_region 21 with fail
    go_quiet (fail)
    go_wp2_with fail
    go_ret
    exact ⟨by rw [show cd = 0 from EC.out]; rfl, (by (repeat (first | exact K0.out | apply Same.drewN | apply Same.drew)); done)⟩
set_option maxRecDepth 100000 in
set_option maxHeartbeats 3200000 in
theorem refuse_bad {w : World} {rb n : Nat} {fl : Int} {R : Rr} {a : Option Addr} {cap : Nat} {ev : Value} (h : Rd w rb n fl R a cap ev) (hs : Sml R) (kd se gp : Int) (k v : ByteArray) (hk : k.size ≤ maxLen) (hv : v.size ≤ maxLen) (hkd : kd < 1 ∨ 6 < kd) : RfP w rb n R ⟨kd, se, gp, k, v⟩ := by
  have HH : Hid (Rd w rb n fl R a cap ev) := h
  have hn := hs.n
  have hks : (k.size : Int) ≤ 9223372036854775807 := by unfold maxLen at hk; omega
  have hvs : (v.size : Int) ≤ 9223372036854775807 := by unfold maxLen at hv; omega
  have K0 : Hid (Kept w (w.alloc (stO ⟨kd, se, gp, k, v⟩))) := (Same.refl _ w).alloc _
  have G0 : Hid _ := heap_new w (stO ⟨kd, se, gp, k, v⟩)
  have HAC : Hid _ := ractive15 (h.on K0.out) hn se
  have HRD : Hid (Rd (w.alloc (stO ⟨kd, se, gp, k, v⟩)) rb n fl R a cap ev) := h.on K0.out
  have HIN : Hid (∀ q, rAct R.all se = some q → q < R.all.length) := fun q hq => by
    obtain ⟨r, h1, -⟩ := rAct_in hq
    exact (List.getElem?_eq_some_iff.1 h1).1
  unfold RfP
  obtain ⟨cd, ecd⟩ : ∃ cd, cd = rCode n R ⟨kd, se, gp, k, v⟩ := ⟨_, rfl⟩
  rw [← ecd]
  have ECD : Hid (cd = rCode n R ⟨kd, se, gp, k, v⟩) := ecd
  unfold stA
  simp only
  clear h ecd hk hv
  go_enter Try.func61, Try.ntmps61
  go_upto_region 1 with fail
  generalize w.alloc (stO ⟨kd, se, gp, k, v⟩) = W at *
  generalize w.heap.size = g at *
  obtain ⟨c0, c1, c2, c3, c4⟩ := st_cells G0.out
  have hg := lt_of_heap G0.out
  simp only at c0 c1 c2 c3 c4
  have m0 := HRD.out.c0
  have m2 := HRD.out.c2
  have m3 := HRD.out.c3
  have hrl := HRD.out.lt
  obtain ⟨L, eL⟩ : ∃ L, L = R.all.length := ⟨_, rfl⟩
  rw [← eL] at hn m3
  have EL : Hid (L = R.all.length) := eL
  clear eL
  have EC : Hid (cd = 151) := (show cd = _ from ECD.out).trans (by simp [rCode, codeB, hkd])
  have x2 : (kd == 2) = false := by simp; omega
  have x3 : (kd == 3) = false := by simp; omega
  have x4 : (kd == 4) = false := by simp; omega
  go_wp2_with fail
  refine Calls.mono HAC.out ?_
  rintro r2 w2 ⟨rfl, e2⟩
  subst e2
  clear HAC
  by_cases s1 : kd < 1
  · have f1 : decide (kd < 1) = true := decide_eq_true s1
    clear hkd
    go_wp2_with fail
    go_ret
    exact ⟨by rw [show cd = 151 from EC.out]; rfl, K0.out⟩
  · have f1 : decide (kd < 1) = false := decide_eq_false s1
    have f2 : decide (6 < kd) = true := decide_eq_true (by omega)
    have f3 : 6 < kd := by omega
    clear hkd
    go_wp2_with fail
    go_ret
    exact ⟨by rw [show cd = 151 from EC.out]; rfl, K0.out⟩
theorem rrefuse15 {w : World} {rb n : Nat} {fl : Int} {R : Rr} {a : Option Addr} {cap : Nat} {ev : Value} (h : Rd w rb n fl R a cap ev) (hs : Sml R) (s : Stp) (hk : s.key.size ≤ maxLen) (hv : s.value.size ≤ maxLen) : RfP w rb n R s := by
  obtain ⟨kd, se, gp, k, v⟩ := s
  by_cases hkd : kd < 1 ∨ 6 < kd
  · exact refuse_bad h hs kd se gp k v hk hv hkd
  · have : kd = 1 ∨ kd = 2 ∨ kd = 3 ∨ kd = 4 ∨ kd = 5 ∨ kd = 6 := by omega
    rcases this with rfl | rfl | rfl | rfl | rfl | rfl
    · exact refuse_1 h hs se gp k v hk hv
    · exact refuse_2 h hs se gp k v hk hv
    · exact refuse_3 h hs se gp k v hk hv
    · exact refuse_4 h hs se gp k v hk hv
    · exact refuse_5 h hs se gp k v hk hv
    · exact refuse_6 h hs se gp k v hk hv
end Go.Proofs.Ytbjmdpfoeeadeaa.Ch.Mc

namespace Go.Proofs.Ytbjmdpfoeeadeaa.Ch.Mc
open Go.RowKit

/-- Whose a block is. -/
inductive Ug where
  | out
  | mach
  | all
  | ends
  | ops (i : Nat)
  | ats (i : Nat)
noncomputable def reu (tg : Nat → Ug) (X : Nat → Prop) (T : Ug) : Nat → Ug := fun b => open Classical in if X b then T else tg b
theorem reu_in {tg : Nat → Ug} {X : Nat → Prop} {T : Ug} {b : Nat} (h : X b) : reu tg X T b = T := by unfold reu; rw [if_pos h]
theorem reu_no {tg : Nat → Ug} {X : Nat → Prop} {T : Ug} {b : Nat} (h : ¬ X b) : reu tg X T b = tg b := by unfold reu; rw [if_neg h]
abbrev Rt := Rn × Value × Value
def rnc1 (x : Rt) : List Value := [.int .i64 x.1.t.f0, .int .i64 x.1.t.f1, .int .i64 x.1.t.f2, .int .i64 x.1.t.f3, .int .i64 x.1.t.f4, .int .i64 x.1.t.f5, .int .i64 x.1.t.f6, x.2.1, .int .i64 x.1.st, x.2.2]
def rnc (l : List Rt) : List Value := l.flatMap rnc1
theorem length_rnc (l : List Rt) : (rnc l).length = l.length * 10 := by
  induction l with
  | nil => rfl
  | cons a r ih => simp only [rnc, List.flatMap_cons, List.length_append, List.length_cons, rnc1, List.length_nil] at *; omega
theorem rnc_cons (x : Rt) (l : List Rt) : rnc (x :: l) = rnc1 x ++ rnc l := rfl
theorem rnc_append (a b : List Rt) : rnc (a ++ b) = rnc a ++ rnc b := by simp [rnc]
theorem rnc_get {l : List Rt} {i : Nat} {x : Rt} (h : l[i]? = some x) (j : Nat) (hj : j < 10) : (rnc l)[i * 10 + j]? = (rnc1 x)[j]? := by
  induction l generalizing i with
  | nil => simp at h
  | cons a l ih =>
    cases i with
    | zero =>
      simp only [List.getElem?_cons_zero, Option.some.injEq] at h
      subst h
      rw [rnc_cons, Nat.zero_mul, Nat.zero_add, List.getElem?_append_left (by exact hj)]
    | succ i =>
      simp only [List.getElem?_cons_succ] at h
      rw [rnc_cons, List.getElem?_append_right (by show 10 ≤ _; omega), ← ih h]
      congr 1
      show (i + 1) * 10 + j - 10 = _
      omega
theorem rnc_set {l : List Rt} {i : Nat} {x y : Rt} (h : l[i]? = some x) {j : Nat} (hj : j < 10) {v : Value} (hv : (rnc1 x).set j v = rnc1 y) : (rnc l).set (i * 10 + j) v = rnc (l.set i y) := by
  induction l generalizing i with
  | nil => simp at h
  | cons a l ih =>
    cases i with
    | zero =>
      simp only [List.getElem?_cons_zero, Option.some.injEq] at h
      subst h
      rw [List.set_cons_zero, rnc_cons, rnc_cons, Nat.zero_mul, Nat.zero_add, List.set_append_left _ _ (by exact hj), hv]
    | succ i =>
      simp only [List.getElem?_cons_succ] at h
      rw [List.set_cons_succ, rnc_cons, rnc_cons, List.set_append_right _ _ (by show 10 ≤ _; omega), ← ih h]
      congr 2
      show (i + 1) * 10 + j - 10 = _
      omega
theorem Try.infoRun : (Try.prog.info? 113).map (fun i => (i.zero, i.size, i.bytes)) = some (some (.agg #[.int .i64 0, .int .i64 0, .int .i64 0, .int .i64 0, .int .i64 0, .int .i64 0, .int .i64 0, .slice none 0 0, .int .i64 0, .slice none 0 0]), 10, 112) := by kernel_rfl
abbrev rmO (n fl c : Int) (av ev : Value) : Obj := .cells #[.int .i64 n, .int .i64 fl, .int .i64 c, av, ev] 109 (0, 0)
/-- The document's machine in memory. -/
structure Rm (tg : Nat → Ug) (w : World) (rb n : Nat) (fl : Int) (R : Rr) (av ev : Value) (L : List Rt) : Prop where
  obj : w.heap[rb]? = some (rmO n fl R.clock av ev)
  tm : tg rb = .mach
  all : w.ownsRow 0 113 10 av L.length (rnc L)
  ta : ∀ b, av.ownBlock = some b → tg b = .all
  ends : OwnI 0 w ev (R.ends.map fun i => ((i : Nat) : Int))
  te : ∀ b, ev.ownBlock = some b → tg b = .ends
  map : L.map (·.1) = R.all
  row : ∀ (i : Nat) (x : Rt), L[i]? = some x → OwnO 0 w x.2.1 x.1.t.ops ∧ OwnI 0 w x.2.2 x.1.ts ∧ (∀ b, x.2.1.ownBlock = some b → tg b = .ops i) ∧ (∀ b, x.2.2.ownBlock = some b → tg b = .ats i)
  lt : ∀ b, tg b ≠ .out → b < w.heap.size
theorem Rm.off {tg : Nat → Ug} {w w' : World} {rb n : Nat} {fl : Int} {R : Rr} {av ev : Value} {L : List Rt} (h : Rm tg w rb n fl R av ev L) {S : Nat → Prop} (hs : Same S w w') (hd : ∀ b, S b → tg b = .out) : Rm tg w' rb n fl R av ev L := by
  have hn : ∀ {b : Nat} {T : Ug}, tg b = T → T ≠ .out → ¬ S b := fun e1 e2 hb => e2 (e1.symm.trans (hd _ hb))
  refine ⟨(hs.block rb (lt_of_heap h.obj) (hn h.tm (fun e => by cases e))).trans h.obj, h.tm, row_kept h.all hs (fun b hb => hn (h.ta b hb) (fun e => by cases e)), h.ta, row_kept h.ends hs (fun b hb => hn (h.te b hb) (fun e => by cases e)), h.te, h.map, fun i x hx => ?_, fun b hb => Nat.lt_of_lt_of_le (h.lt b hb) hs.size⟩
  obtain ⟨h1, h2, h3, h4⟩ := h.row i x hx
  exact ⟨row_kept h1 hs (fun b hb => hn (h3 b hb) (fun e => by cases e)), row_kept h2 hs (fun b hb => hn (h4 b hb) (fun e => by cases e)), h3, h4⟩
theorem Rm.on {tg : Nat → Ug} {w w' : World} {rb n : Nat} {fl : Int} {R : Rr} {av ev : Value} {L : List Rt} (h : Rm tg w rb n fl R av ev L) (k : Kept w w') : Rm tg w' rb n fl R av ev L := h.off k fun _ e => e.elim
theorem OwnI.at {base : Nat} {w : World} {v : Value} {l : List Int} (h : OwnI base w v l) : ∃ a cap, v = .slice a l.length cap ∧ IntsAt w a l := by
  obtain ⟨a, cap, rfl, -, -, -⟩ := row_shape h
  refine ⟨a, cap, rfl, fun i x hx => ?_⟩
  obtain ⟨b, rfl, -, hb, c⟩ := row_cell h (j := i) (u := .int .i64 x) (by rw [List.getElem?_map, hx]; rfl)
  exact ⟨b, 0, rfl, hb, by rw [Nat.zero_add]; exact c⟩
/-- As it is read. -/
theorem Rm.rd {tg : Nat → Ug} {w : World} {rb n : Nat} {fl : Int} {R : Rr} {av ev : Value} {L : List Rt} (h : Rm tg w rb n fl R av ev L) : ∃ a cap, av = .slice a R.all.length cap ∧ Rd w rb n fl R a cap ev := by
  obtain ⟨a, cap, e, -, -, -⟩ := row_shape h.all
  have hl : R.all.length = L.length := by rw [← h.map, List.length_map]
  refine ⟨a, cap, by rw [hl]; exact e, ?_⟩
  have ho := h.obj
  refine ⟨(cell_of ho 0).trans rfl, (cell_of ho 1).trans rfl, (cell_of ho 2).trans rfl, (cell_of ho 3).trans (by rw [hl, ← e]; rfl), (cell_of ho 4).trans rfl, lt_of_heap ho, fun i r hr => ?_⟩
  rw [← h.map, List.getElem?_map] at hr
  cases hx : L[i]? with
  | none => rw [hx] at hr; cases hr
  | some x =>
    rw [hx] at hr
    simp only [Option.map_some, Option.some.injEq] at hr
    subst hr
    obtain ⟨h1, h2, -, -⟩ := h.row i x hx
    obtain ⟨oa, oc, eo, hop, -, -⟩ := OwnO.ops h1
    obtain ⟨ta, tc, et, hts⟩ := OwnI.at h2
    have hall := h.all
    rw [e] at hall
    have hc : ∀ (j : Nat) (u : Value), j < 10 → (rnc1 x)[j]? = some u → ∃ b, a = some ⟨b, 0, none⟩ ∧ b < w.heap.size ∧ w.cell? ⟨b, 0 + i * 10 + j, none⟩ = some u := fun j u hj hu => by
      obtain ⟨b, e1, -, hb, c⟩ := row_cell hall (j := i * 10 + j) (u := u) (by rw [rnc_get hx j hj]; exact hu)
      exact ⟨b, e1, hb, by rw [Nat.zero_add]; exact c⟩
    obtain ⟨b, e1, hb, c0⟩ := hc 0 _ (by decide) rfl
    have hc' : ∀ (j : Nat) (u : Value), j < 10 → (rnc1 x)[j]? = some u → w.cell? ⟨b, 0 + i * 10 + j, none⟩ = some u := fun j u hj hu => by
      obtain ⟨b', e2, -, c⟩ := hc j u hj hu
      rw [e1] at e2
      cases e2
      exact c
    exact ⟨b, 0, oa, oc, ta, tc, e1, hb, ⟨c0, hc' 1 _ (by decide) rfl, hc' 2 _ (by decide) rfl, hc' 3 _ (by decide) rfl, hc' 4 _ (by decide) rfl, hc' 5 _ (by decide) rfl, hc' 6 _ (by decide) rfl, by rw [← eo]; exact hc' 7 _ (by decide) rfl, hc' 8 _ (by decide) rfl, by rw [← et]; exact hc' 9 _ (by decide) rfl, hop, hts⟩⟩
/-- Blocks of different kinds. -/
theorem Rm.ne {tg : Nat → Ug} {b c : Nat} {T U : Ug} (h1 : tg b = T) (h2 : tg c = U) (h : T ≠ U) : b ≠ c := fun e => h (by rw [← h1, ← h2, e])
theorem Rm.clock {tg : Nat → Ug} {w : World} {rb n : Nat} {fl : Int} {R : Rr} {av ev : Value} {L : List Rt} (h : Rm tg w rb n fl R av ev L) (c : Int) : Rm tg (w.setCell ⟨rb, 2, none⟩ (.int .i64 c)) rb n fl (rTick R c) av ev L := by
  have hs : Same (fun b => b = rb) w (w.setCell ⟨rb, 2, none⟩ (.int .i64 c)) := Same.setCell (S := fun b => b = rb) (Same.refl _ w) ⟨rb, 2, none⟩ (.inr rfl) _
  refine ⟨by have h9 := setCell_at h.obj 2 (.int .i64 c); exact h9.trans rfl, h.tm, row_kept h.all hs (fun b hb => Rm.ne (h.ta b hb) h.tm (fun e => by cases e)), h.ta, row_kept h.ends hs (fun b hb => Rm.ne (h.te b hb) h.tm (fun e => by cases e)), h.te, h.map, fun i x hx => ?_, fun b hb => Nat.lt_of_lt_of_le (h.lt b hb) hs.size⟩
  obtain ⟨h1, h2, h3, h4⟩ := h.row i x hx
  exact ⟨row_kept h1 hs (fun b hb => Rm.ne (h3 b hb) h.tm (fun e => by cases e)), row_kept h2 hs (fun b hb => Rm.ne (h4 b hb) h.tm (fun e => by cases e)), h3, h4⟩
theorem row_put {base : Nat} {w : World} {e : TypeId} {n m : Nat} {v : Value} {l : List Value} (h : w.ownsRow base e n v m l) {g : Nat} (hg : v.ownBlock = some g) {j : Nat} (_hj : j < l.length) (u : Value) : (w.setCell ⟨g, j, none⟩ u).ownsRow base e n v m (l.set j u) := by
  rcases h.2 with ⟨rfl, h0⟩ | ⟨g', cap, cur, rfl, hb, hc, h1, h2, h3, h4⟩
  · cases hg
  · cases hg
    refine ⟨by rw [List.length_set]; exact h.1, .inr ⟨g', cap, cur.setIfInBounds j u, rfl, hb, setCell_at hc j u, h1, h2, by simpa using h3, ?_⟩⟩
    rw [Array.toList_setIfInBounds, ← h4, List.take_set]
/-- A run's cell is stored. -/
theorem Rm.cell {tg : Nat → Ug} {w : World} {rb n : Nat} {fl : Int} {R : Rr} {av ev : Value} {L : List Rt} (h : Rm tg w rb n fl R av ev L) {g : Nat} (hg : av.ownBlock = some g) {i : Nat} {x : Rt} (hx : L[i]? = some x) {j : Nat} (hj : j < 10) {v : Value} {r' : Rn} (hv : (rnc1 x).set j v = rnc1 (r', x.2)) (ho : r'.t.ops = x.1.t.ops) (ht : r'.ts = x.1.ts) :
    Rm tg (w.setCell ⟨g, i * 10 + j, none⟩ v) rb n fl { R with all := R.all.set i r' } av ev (L.set i (r', x.2)) := by
  have hs : Same (fun b => b = g) w (w.setCell ⟨g, i * 10 + j, none⟩ v) := Same.setCell (S := fun b => b = g) (Same.refl _ w) ⟨g, i * 10 + j, none⟩ (.inr rfl) _
  have hga := h.ta g hg
  have hil := (List.getElem?_eq_some_iff.1 hx).1
  refine ⟨(hs.block rb (lt_of_heap h.obj) (fun e => Rm.ne h.tm hga (fun e => by cases e) e)).trans h.obj, h.tm, ?_, h.ta, row_kept h.ends hs (fun b hb => Rm.ne (h.te b hb) hga (fun e => by cases e)), h.te, ?_, fun q y hy => ?_, fun b hb => Nat.lt_of_lt_of_le (h.lt b hb) hs.size⟩
  · rw [List.length_set, ← rnc_set hx hj hv]
    exact row_put h.all hg (by rw [length_rnc]; omega) v
  · rw [List.map_set, h.map]
  · have hy2 : ∃ z, L[q]? = some z ∧ y.2 = z.2 ∧ y.1.t.ops = z.1.t.ops ∧ y.1.ts = z.1.ts := by
      rw [List.getElem?_set] at hy
      split at hy
      · rename_i e
        subst e
        first | (rw [if_pos hil] at hy; cases hy) | cases hy
        exact ⟨x, hx, rfl, ho, ht⟩
      · exact ⟨y, hy, rfl, rfl, rfl⟩
    obtain ⟨z, e0, e1, e2, e3⟩ := hy2
    obtain ⟨h1, h2, h3, h4⟩ := h.row q z e0
    rw [e1, e2, e3]
    exact ⟨row_kept h1 hs (fun b hb => Rm.ne (h3 b hb) hga (fun e => by cases e)), row_kept h2 hs (fun b hb => Rm.ne (h4 b hb) hga (fun e => by cases e)), h3, h4⟩
/-- The tags have grown. -/
def Up (tg : Nat → Ug) (w : World) (tg' : Nat → Ug) : Prop := (∀ b, tg b ≠ .out → tg' b = tg b) ∧ ∀ b, tg' b ≠ .out → tg b ≠ .out ∨ w.heap.size ≤ b
theorem Up.refl (tg : Nat → Ug) (w : World) : Up tg w tg := ⟨fun _ _ => rfl, fun _ h => .inl h⟩
theorem Up.trans {tg tg' tg'' : Nat → Ug} {w w' : World} (h : Up tg w tg') (hw : w.heap.size ≤ w'.heap.size) (h' : Up tg' w' tg'') : Up tg w tg'' :=
  ⟨fun b hb => (h'.1 b (by rw [h.1 b hb]; exact hb)).trans (h.1 b hb), fun b hb => (h'.2 b hb).elim (h.2 b) fun e => .inr (by omega)⟩
theorem tag_up {tg : Nat → Ug} {w W' w4 : World} {X v4 : Value} {T : Ug} (hlt : ∀ b, tg b ≠ .out → b < w.heap.size) (hw : w.heap.size ≤ W'.heap.size) (hw4 : W'.heap.size ≤ w4.heap.size) (hX : ∀ b, X.ownBlock = some b → tg b = T) (hl : ∀ b, v4.ownBlock = some b → X.ownBlock = some b ∨ W'.heap.size ≤ b) (hv : ∀ b, v4.ownBlock = some b → b < w4.heap.size) :
    ∃ tg', (∀ b, v4.ownBlock = some b → tg' b = T) ∧ Up tg w tg' ∧ ∀ b, tg' b ≠ .out → b < w4.heap.size := by
  refine ⟨reu tg (fun b => v4.ownBlock = some b) T, fun b hb => reu_in (X := fun b => v4.ownBlock = some b) hb, ⟨fun b hb => ?_, fun b hb => ?_⟩, fun b hb => ?_⟩
  · by_cases h1 : v4.ownBlock = some b
    · rw [reu_in (X := fun b => v4.ownBlock = some b) h1]
      rcases hl b h1 with h2 | h2
      · exact (hX b h2).symm
      · have := hlt b hb
        omega
    · exact reu_no (X := fun b => v4.ownBlock = some b) h1
  · by_cases h1 : v4.ownBlock = some b
    · by_cases h0 : tg b = .out
      · rcases hl b h1 with h2 | h2
        · rw [reu_in (X := fun b => v4.ownBlock = some b) h1, ← hX b h2] at hb
          exact .inl hb
        · exact .inr (by omega)
      · exact .inl h0
    · rw [reu_no (X := fun b => v4.ownBlock = some b) h1] at hb
      exact .inl hb
  · by_cases h1 : v4.ownBlock = some b
    · exact hv b h1
    · rw [reu_no (X := fun b => v4.ownBlock = some b) h1] at hb
      have := hlt b hb
      omega
/-- The document's machine on its way. -/
structure Rq (tg : Nat → Ug) (w wx : World) (rb n : Nat) (fl : Int) (R : Rr) (av ev : Value) (L : List Rt) : Prop where
  ex : ∃ tg', Rm tg' wx rb n fl R av ev L ∧ Up tg w tg'
  same : Same (fun b => tg b ≠ .out) w wx
theorem Rq.start {tg : Nat → Ug} {w : World} {rb n : Nat} {fl : Int} {R : Rr} {av ev : Value} {L : List Rt} (h : Rm tg w rb n fl R av ev L) : Rq tg w w rb n fl R av ev L := ⟨⟨tg, h, Up.refl _ _⟩, Same.refl _ _⟩
theorem Rq.on {tg : Nat → Ug} {w wx wy : World} {rb n : Nat} {fl : Int} {R : Rr} {av ev : Value} {L : List Rt} (h : Rq tg w wx rb n fl R av ev L) (k : Kept wx wy) : Rq tg w wy rb n fl R av ev L := by
  obtain ⟨tg', h1, h2⟩ := h.ex
  exact ⟨⟨tg', h1.on k, h2⟩, h.same.trans k fun _ _ e => e.elim⟩
theorem Rq.rd {tg : Nat → Ug} {w wx : World} {rb n : Nat} {fl : Int} {R : Rr} {av ev : Value} {L : List Rt} (h : Rq tg w wx rb n fl R av ev L) : ∃ a cap, av = .slice a R.all.length cap ∧ Rd wx rb n fl R a cap ev := by
  obtain ⟨tg', h1, -⟩ := h.ex
  exact h1.rd
theorem Rq.old {tg tg' : Nat → Ug} {w : World} (hu : Up tg w tg') {b : Nat} {T : Ug} (h : tg' b = T) (hT : T ≠ .out) : b < w.heap.size → tg b ≠ .out := fun hb e => by
  rcases hu.2 b (by rw [h]; exact hT) with h1 | h1
  · exact h1 e
  · omega
theorem Rq.clock {tg : Nat → Ug} {w wx : World} {rb n : Nat} {fl : Int} {R : Rr} {av ev : Value} {L : List Rt} (h : Rq tg w wx rb n fl R av ev L) (c : Int) : Rq tg w (wx.setCell ⟨rb, 2, none⟩ (.int .i64 c)) rb n fl (rTick R c) av ev L := by
  obtain ⟨tg', h1, h2⟩ := h.ex
  refine ⟨⟨tg', h1.clock c, h2⟩, h.same.trans (Same.setCell (S := fun b => b = rb) (Same.refl _ wx) ⟨rb, 2, none⟩ (.inr rfl) _) fun b hb e => ?_⟩
  subst e
  exact Rq.old h2 h1.tm (fun e => by cases e) hb
theorem Rq.cell {tg : Nat → Ug} {w wx : World} {rb n : Nat} {fl : Int} {R : Rr} {av ev : Value} {L : List Rt} (h : Rq tg w wx rb n fl R av ev L) {g : Nat} (hg : av.ownBlock = some g) {i : Nat} {x : Rt} (hx : L[i]? = some x) {j : Nat} (hj : j < 10) {v : Value} (r' : Rn) (hv : (rnc1 x).set j v = rnc1 (r', x.2)) (ho : r'.t.ops = x.1.t.ops) (ht : r'.ts = x.1.ts) :
    Rq tg w (wx.setCell ⟨g, i * 10 + j, none⟩ v) rb n fl { R with all := R.all.set i r' } av ev (L.set i (r', x.2)) := by
  obtain ⟨tg', h1, h2⟩ := h.ex
  refine ⟨⟨tg', h1.cell hg hx hj hv ho ht, h2⟩, h.same.trans (Same.setCell (S := fun b => b = g) (Same.refl _ wx) ⟨g, i * 10 + j, none⟩ (.inr rfl) _) fun b hb e => ?_⟩
  subst e
  exact Rq.old h2 (h1.ta b hg) (fun e => by cases e) hb
theorem Rm.up {tg tg' : Nat → Ug} {w : World} {rb n : Nat} {fl : Int} {R : Rr} {av ev : Value} {L : List Rt} (_h : Rm tg w rb n fl R av ev L) (hu : ∀ b, tg b ≠ .out → tg' b = tg b) {b : Nat} {T : Ug} (hb : tg b = T) (hT : T ≠ .out) : tg' b = T := (hu b (by rw [hb]; exact hT)).trans hb
/-- One end more. -/
theorem Rq.addEnd {tg : Nat → Ug} {w wx W' w4 : World} {rb n : Nat} {fl : Int} {R : Rr} {av ev v4 : Value} {L : List Rt} (h : Rq tg w wx rb n fl R av ev L) (k : Kept wx W') {i : Nat} (ho : OwnI 0 w4 v4 ((R.ends.map fun i => ((i : Nat) : Int)) ++ [(i : Int)])) (hs : Same (fun b => ev.ownBlock = some b) W' w4) (hl : ∀ b, v4.ownBlock = some b → ev.ownBlock = some b ∨ W'.heap.size ≤ b) :
    (w4.heap[rb]? = some (rmO n fl R.clock av ev) ∧ ∃ a n c, v4 = .slice a n c) ∧ Rq tg w (w4.setCell ⟨rb, 4, none⟩ v4) rb n fl { R with ends := R.ends ++ [i] } av v4 L := by
  obtain ⟨tg1, h0, h2⟩ := h.ex
  have h1 := h0.on k
  have hws : wx.heap.size ≤ W'.heap.size := k.size
  obtain ⟨tg', t1, t2, t3⟩ := tag_up (tg := tg1) (w := W') (W' := W') (w4 := w4) (X := ev) (v4 := v4) (T := .ends) h1.lt (Nat.le_refl _) hs.size h1.te hl (fun b hb => by obtain ⟨-, cur, hc⟩ := row_block ho hb; exact lt_of_heap hc)
  have hset : Same (fun b => b = rb) w4 (w4.setCell ⟨rb, 4, none⟩ v4) := Same.setCell (S := fun b => b = rb) (Same.refl _ w4) ⟨rb, 4, none⟩ (.inr rfl) v4
  have hS : Same (fun b => ev.ownBlock = some b ∨ b = rb) W' (w4.setCell ⟨rb, 4, none⟩ v4) := by
    exact (hs.mono fun _ _ e => .inl e).trans hset fun b hb e => .inr e
  have hn : ∀ {b : Nat} {T : Ug}, tg1 b = T → T ≠ .ends → T ≠ .mach → ¬ (ev.ownBlock = some b ∨ b = rb) := fun e1 e2 e3 hb => by
    rcases hb with hb | hb
    · exact e2 (e1.symm.trans (h1.te _ hb))
    · subst hb
      exact e3 (e1.symm.trans h1.tm)
  have ho4 : w4.heap[rb]? = some (rmO n fl R.clock av ev) := (hs.block rb (lt_of_heap h1.obj) (fun e => by have := (h1.te _ e).symm.trans h1.tm; cases this)).trans h1.obj
  obtain ⟨a4, c4, e4, -⟩ := row_shape ho
  refine ⟨⟨ho4, a4, _, c4, e4⟩, ⟨⟨tg', ⟨by have h9 := setCell_at ho4 4 v4; exact h9.trans rfl, h1.up t2.1 h1.tm (fun e => by cases e), row_kept h1.all hS (fun b hb => hn (h1.ta b hb) (fun e => by cases e) (fun e => by cases e)), fun b hb => h1.up t2.1 (h1.ta b hb) (fun e => by cases e), ?_, t1, h1.map, fun q x hx => ?_, fun b hb => ?_⟩, ?_⟩, ?_⟩⟩
  · refine row_kept (l := _) (by rw [List.map_append]; exact ho) hset fun b hb e => ?_
    subst e
    have := (t1 _ hb).symm.trans (h1.up t2.1 h1.tm (fun e => by cases e))
    cases this
  · obtain ⟨r1, r2, r3, r4⟩ := h1.row q x hx
    exact ⟨row_kept r1 hS (fun b hb => hn (r3 b hb) (fun e => by cases e) (fun e => by cases e)), row_kept r2 hS (fun b hb => hn (r4 b hb) (fun e => by cases e) (fun e => by cases e)), fun b hb => h1.up t2.1 (r3 b hb) (fun e => by cases e), fun b hb => h1.up t2.1 (r4 b hb) (fun e => by cases e)⟩
  · exact Nat.lt_of_lt_of_le (t3 b hb) hset.size
  · exact h2.trans (w' := W') (Nat.le_trans h.same.size hws) t2
  · refine (h.on k).same.trans hS fun b hb e => ?_
    rcases e with e | e
    · exact Rq.old h2 (h1.te _ e) (fun e => by cases e) hb
    · subst e
      exact Rq.old h2 h1.tm (fun e => by cases e) hb
/-- One transaction more. -/
theorem Rq.addRun {tg : Nat → Ug} {w wx W' w4 : World} {rb n : Nat} {fl : Int} {R : Rr} {av ev v4 : Value} {L : List Rt} (h : Rq tg w wx rb n fl R av ev L) (k : Kept wx W') {r : Rn} (hr : r.t.ops = [] ∧ r.ts = []) (ho : w4.ownsRow 0 113 10 v4 (L.length + 1) (rnc (L ++ [(r, .slice none 0 0, .slice none 0 0)]))) (hs : Same (fun b => av.ownBlock = some b) W' w4) (hl : ∀ b, v4.ownBlock = some b → av.ownBlock = some b ∨ W'.heap.size ≤ b) :
    (w4.heap[rb]? = some (rmO n fl R.clock av ev) ∧ ∃ a n c, v4 = .slice a n c) ∧ Rq tg w (w4.setCell ⟨rb, 3, none⟩ v4) rb n fl { R with all := R.all ++ [r] } v4 ev (L ++ [(r, .slice none 0 0, .slice none 0 0)]) := by
  obtain ⟨tg1, h0, h2⟩ := h.ex
  have h1 := h0.on k
  have hws : wx.heap.size ≤ W'.heap.size := k.size
  obtain ⟨tg', t1, t2, t3⟩ := tag_up (tg := tg1) (w := W') (W' := W') (w4 := w4) (X := av) (v4 := v4) (T := .all) h1.lt (Nat.le_refl _) hs.size h1.ta hl (fun b hb => by obtain ⟨-, cur, hc⟩ := row_block ho hb; exact lt_of_heap hc)
  have hset : Same (fun b => b = rb) w4 (w4.setCell ⟨rb, 3, none⟩ v4) := Same.setCell (S := fun b => b = rb) (Same.refl _ w4) ⟨rb, 3, none⟩ (.inr rfl) v4
  have hS : Same (fun b => av.ownBlock = some b ∨ b = rb) W' (w4.setCell ⟨rb, 3, none⟩ v4) := by
    exact (hs.mono fun _ _ e => .inl e).trans hset fun b hb e => .inr e
  have hn : ∀ {b : Nat} {T : Ug}, tg1 b = T → T ≠ .all → T ≠ .mach → ¬ (av.ownBlock = some b ∨ b = rb) := fun e1 e2 e3 hb => by
    rcases hb with hb | hb
    · exact e2 (e1.symm.trans (h1.ta _ hb))
    · subst hb
      exact e3 (e1.symm.trans h1.tm)
  have ho4 : w4.heap[rb]? = some (rmO n fl R.clock av ev) := (hs.block rb (lt_of_heap h1.obj) (fun e => by have := (h1.ta _ e).symm.trans h1.tm; cases this)).trans h1.obj
  obtain ⟨a4, c4, e4, -⟩ := row_shape ho
  refine ⟨⟨ho4, a4, _, c4, e4⟩, ⟨⟨tg', ⟨by have h9 := setCell_at ho4 3 v4; exact h9.trans rfl, h1.up t2.1 h1.tm (fun e => by cases e), ?_, t1, row_kept h1.ends hS (fun b hb => hn (h1.te b hb) (fun e => by cases e) (fun e => by cases e)), fun b hb => h1.up t2.1 (h1.te b hb) (fun e => by cases e), by rw [List.map_append, h1.map]; rfl, fun q x hx => ?_, fun b hb => ?_⟩, ?_⟩, ?_⟩⟩
  · rw [List.length_append]
    refine row_kept ho hset fun b hb e => ?_
    subst e
    have := (t1 _ hb).symm.trans (h1.up t2.1 h1.tm (fun e => by cases e))
    cases this
  · by_cases hq : q < L.length
    · rw [List.getElem?_append_left hq] at hx
      obtain ⟨r1, r2, r3, r4⟩ := h1.row q x hx
      exact ⟨row_kept r1 hS (fun b hb => hn (r3 b hb) (fun e => by cases e) (fun e => by cases e)), row_kept r2 hS (fun b hb => hn (r4 b hb) (fun e => by cases e) (fun e => by cases e)), fun b hb => h1.up t2.1 (r3 b hb) (fun e => by cases e), fun b hb => h1.up t2.1 (r4 b hb) (fun e => by cases e)⟩
    · rw [List.getElem?_append_right (by omega), List.getElem?_singleton] at hx
      split at hx
      · cases hx
        have y1 : OwnO 0 (w4.setCell ⟨rb, 3, none⟩ v4) (.slice none 0 0) r.t.ops := by rw [hr.1]; exact ⟨rfl, .inl ⟨rfl, rfl⟩⟩
        have y2 : OwnI 0 (w4.setCell ⟨rb, 3, none⟩ v4) (.slice none 0 0) r.ts := by rw [hr.2]; exact ⟨rfl, .inl ⟨rfl, rfl⟩⟩
        have y3 : ∀ (T : Ug) (b : Nat), (Value.slice none 0 0).ownBlock = some b → tg' b = T := fun T b hb => by cases hb
        exact ⟨y1, y2, y3 _, y3 _⟩
      · cases hx
  · exact Nat.lt_of_lt_of_le (t3 b hb) hset.size
  · exact h2.trans (w' := W') (Nat.le_trans h.same.size hws) t2
  · refine (h.on k).same.trans hS fun b hb e => ?_
    rcases e with e | e
    · exact Rq.old h2 (h1.ta _ e) (fun e => by cases e) hb
    · subst e
      exact Rq.old h2 h1.tm (fun e => by cases e) hb
/-- One operation more. -/
theorem Rq.addOp {tg : Nat → Ug} {w wx W' w4 : World} {rb n : Nat} {fl : Int} {R : Rr} {av ev v4 : Value} {L : List Rt} (h : Rq tg w wx rb n fl R av ev L) (k : Kept wx W') {g : Nat} (hg : av.ownBlock = some g) {i : Nat} {x : Rt} (hx : L[i]? = some x) {r' : Rn} {o : OpM} (hv : ∀ v, (rnc1 x).set 7 v = rnc1 (r', v, x.2.2)) (he : r'.t.ops = x.1.t.ops ++ [o] ∧ r'.ts = x.1.ts) (ho : OwnO 0 w4 v4 (x.1.t.ops ++ [o])) (hs : Same (fun b => x.2.1.ownBlock = some b) W' w4) (hl : ∀ b, v4.ownBlock = some b → x.2.1.ownBlock = some b ∨ W'.heap.size ≤ b) :
    (w4.heap[rb]? = some (rmO n fl R.clock av ev) ∧ w4.ownsRow 0 113 10 av L.length (rnc L) ∧ ∃ a n c, v4 = .slice a n c) ∧ Rq tg w (w4.setCell ⟨g, i * 10 + 7, none⟩ v4) rb n fl { R with all := R.all.set i r' } av ev (L.set i (r', v4, x.2.2)) := by
  obtain ⟨tg1, h0, h2⟩ := h.ex
  have h1 := h0.on k
  have hws : wx.heap.size ≤ W'.heap.size := k.size
  obtain ⟨x1, x2, x3, x4⟩ := h1.row i x hx
  have hil := (List.getElem?_eq_some_iff.1 hx).1
  have hga := h1.ta g hg
  obtain ⟨tg', t1, t2, t3⟩ := tag_up (tg := tg1) (w := W') (W' := W') (w4 := w4) (X := x.2.1) (v4 := v4) (T := .ops i) h1.lt (Nat.le_refl _) hs.size x3 hl (fun b hb => by obtain ⟨-, cur, hc⟩ := row_block ho hb; exact lt_of_heap hc)
  have hset : Same (fun b => b = g) w4 (w4.setCell ⟨g, i * 10 + 7, none⟩ v4) := Same.setCell (S := fun b => b = g) (Same.refl _ w4) ⟨g, i * 10 + 7, none⟩ (.inr rfl) v4
  have hS : Same (fun b => x.2.1.ownBlock = some b ∨ b = g) W' (w4.setCell ⟨g, i * 10 + 7, none⟩ v4) := by
    exact (hs.mono fun _ _ e => .inl e).trans hset fun b hb e => .inr e
  have hT : ∀ b, x.2.1.ownBlock = some b → tg1 b = .ops i := x3
  have hn : ∀ {b : Nat} {T : Ug}, tg1 b = T → T ≠ .ops i → T ≠ .all → ¬ (x.2.1.ownBlock = some b ∨ b = g) := fun e1 e2 e3 hb => by
    rcases hb with hb | hb
    · exact e2 (e1.symm.trans (hT _ hb))
    · subst hb
      exact e3 (e1.symm.trans hga)
  have hrb : ¬ x.2.1.ownBlock = some rb := fun e => by have := (hT _ e).symm.trans h1.tm; cases this
  have ho4 : w4.heap[rb]? = some (rmO n fl R.clock av ev) := (hs.block rb (lt_of_heap h1.obj) hrb).trans h1.obj
  have ha4 : w4.ownsRow 0 113 10 av L.length (rnc L) := row_kept h1.all hs fun b hb e => by have := (hT _ e).symm.trans (h1.ta b hb); cases this
  obtain ⟨a4, c4, e4, -⟩ := row_shape ho
  refine ⟨⟨ho4, ha4, a4, _, c4, e4⟩, ⟨⟨tg', ⟨(hset.block rb (lt_of_heap ho4) (fun e => Rm.ne h1.tm hga (fun e => by cases e) e)).trans ho4, h1.up t2.1 h1.tm (fun e => by cases e), ?_, fun b hb => h1.up t2.1 (h1.ta b hb) (fun e => by cases e), row_kept h1.ends hS (fun b hb => hn (h1.te b hb) (fun e => by cases e) (fun e => by cases e)), fun b hb => h1.up t2.1 (h1.te b hb) (fun e => by cases e), by rw [List.map_set, h1.map], fun q y hy => ?_, fun b hb => ?_⟩, ?_⟩, ?_⟩⟩
  · rw [List.length_set, ← rnc_set hx (by decide) (hv v4)]
    exact row_put ha4 hg (by rw [length_rnc]; omega) v4
  · rw [List.getElem?_set] at hy
    split at hy
    · rename_i e
      subst e
      first | (rw [if_pos hil] at hy; cases hy) | cases hy
      simp only
      rw [he.1, he.2]
      have hnew : OwnO 0 (w4.setCell ⟨g, i * 10 + 7, none⟩ v4) v4 (x.1.t.ops ++ [o]) := row_kept ho hset fun b hb e => by
        subst e
        have := (t1 _ hb).symm.trans (h1.up t2.1 hga (fun e => by cases e))
        cases this
      exact ⟨hnew, row_kept x2 hS (fun b hb => hn (x4 b hb) (fun e => by cases e) (fun e => by cases e)), t1, fun b hb => h1.up t2.1 (x4 b hb) (fun e => by cases e)⟩
    · rename_i e
      obtain ⟨r1, r2, r3, r4⟩ := h1.row q y hy
      exact ⟨row_kept r1 hS (fun b hb => hn (r3 b hb) (fun e9 => by cases e9 <;> exact e rfl) (fun e => by cases e)), row_kept r2 hS (fun b hb => hn (r4 b hb) (fun e9 => by cases e9 <;> exact e rfl) (fun e => by cases e)), fun b hb => h1.up t2.1 (r3 b hb) (fun e => by cases e), fun b hb => h1.up t2.1 (r4 b hb) (fun e => by cases e)⟩
  · exact Nat.lt_of_lt_of_le (t3 b hb) hset.size
  · exact h2.trans (w' := W') (Nat.le_trans h.same.size hws) t2
  · refine (h.on k).same.trans hS fun b hb e => ?_
    rcases e with e | e
    · exact Rq.old h2 (hT _ e) (fun e => by cases e) hb
    · subst e
      exact Rq.old h2 hga (fun e => by cases e) hb
/-- One time more. -/
theorem Rq.addAt {tg : Nat → Ug} {w wx W' w4 : World} {rb n : Nat} {fl : Int} {R : Rr} {av ev v4 : Value} {L : List Rt} (h : Rq tg w wx rb n fl R av ev L) (k : Kept wx W') {g : Nat} (hg : av.ownBlock = some g) {i : Nat} {x : Rt} (hx : L[i]? = some x) {r' : Rn} {c : Int} (hv : ∀ v, (rnc1 x).set 9 v = rnc1 (r', x.2.1, v)) (he : r'.t.ops = x.1.t.ops ∧ r'.ts = x.1.ts ++ [c]) (ho : OwnI 0 w4 v4 (x.1.ts ++ [c])) (hs : Same (fun b => x.2.2.ownBlock = some b) W' w4) (hl : ∀ b, v4.ownBlock = some b → x.2.2.ownBlock = some b ∨ W'.heap.size ≤ b) :
    (w4.heap[rb]? = some (rmO n fl R.clock av ev) ∧ w4.ownsRow 0 113 10 av L.length (rnc L) ∧ ∃ a n c, v4 = .slice a n c) ∧ Rq tg w (w4.setCell ⟨g, i * 10 + 9, none⟩ v4) rb n fl { R with all := R.all.set i r' } av ev (L.set i (r', x.2.1, v4)) := by
  obtain ⟨tg1, h0, h2⟩ := h.ex
  have h1 := h0.on k
  have hws : wx.heap.size ≤ W'.heap.size := k.size
  obtain ⟨x1, x2, x3, x4⟩ := h1.row i x hx
  have hil := (List.getElem?_eq_some_iff.1 hx).1
  have hga := h1.ta g hg
  obtain ⟨tg', t1, t2, t3⟩ := tag_up (tg := tg1) (w := W') (W' := W') (w4 := w4) (X := x.2.2) (v4 := v4) (T := .ats i) h1.lt (Nat.le_refl _) hs.size x4 hl (fun b hb => by obtain ⟨-, cur, hc⟩ := row_block ho hb; exact lt_of_heap hc)
  have hset : Same (fun b => b = g) w4 (w4.setCell ⟨g, i * 10 + 9, none⟩ v4) := Same.setCell (S := fun b => b = g) (Same.refl _ w4) ⟨g, i * 10 + 9, none⟩ (.inr rfl) v4
  have hS : Same (fun b => x.2.2.ownBlock = some b ∨ b = g) W' (w4.setCell ⟨g, i * 10 + 9, none⟩ v4) := by
    exact (hs.mono fun _ _ e => .inl e).trans hset fun b hb e => .inr e
  have hT : ∀ b, x.2.2.ownBlock = some b → tg1 b = .ats i := x4
  have hn : ∀ {b : Nat} {T : Ug}, tg1 b = T → T ≠ .ats i → T ≠ .all → ¬ (x.2.2.ownBlock = some b ∨ b = g) := fun e1 e2 e3 hb => by
    rcases hb with hb | hb
    · exact e2 (e1.symm.trans (hT _ hb))
    · subst hb
      exact e3 (e1.symm.trans hga)
  have hrb : ¬ x.2.2.ownBlock = some rb := fun e => by have := (hT _ e).symm.trans h1.tm; cases this
  have ho4 : w4.heap[rb]? = some (rmO n fl R.clock av ev) := (hs.block rb (lt_of_heap h1.obj) hrb).trans h1.obj
  have ha4 : w4.ownsRow 0 113 10 av L.length (rnc L) := row_kept h1.all hs fun b hb e => by have := (hT _ e).symm.trans (h1.ta b hb); cases this
  obtain ⟨a4, c4, e4, -⟩ := row_shape ho
  refine ⟨⟨ho4, ha4, a4, _, c4, e4⟩, ⟨⟨tg', ⟨(hset.block rb (lt_of_heap ho4) (fun e => Rm.ne h1.tm hga (fun e => by cases e) e)).trans ho4, h1.up t2.1 h1.tm (fun e => by cases e), ?_, fun b hb => h1.up t2.1 (h1.ta b hb) (fun e => by cases e), row_kept h1.ends hS (fun b hb => hn (h1.te b hb) (fun e => by cases e) (fun e => by cases e)), fun b hb => h1.up t2.1 (h1.te b hb) (fun e => by cases e), by rw [List.map_set, h1.map], fun q y hy => ?_, fun b hb => ?_⟩, ?_⟩, ?_⟩⟩
  · rw [List.length_set, ← rnc_set hx (by decide) (hv v4)]
    exact row_put ha4 hg (by rw [length_rnc]; omega) v4
  · rw [List.getElem?_set] at hy
    split at hy
    · rename_i e
      subst e
      first | (rw [if_pos hil] at hy; cases hy) | cases hy
      simp only
      rw [he.1, he.2]
      have hnew : OwnI 0 (w4.setCell ⟨g, i * 10 + 9, none⟩ v4) v4 (x.1.ts ++ [c]) := row_kept ho hset fun b hb e => by
        subst e
        have := (t1 _ hb).symm.trans (h1.up t2.1 hga (fun e => by cases e))
        cases this
      exact ⟨row_kept x1 hS (fun b hb => hn (x3 b hb) (fun e => by cases e) (fun e => by cases e)), hnew, fun b hb => h1.up t2.1 (x3 b hb) (fun e => by cases e), t1⟩
    · rename_i e
      obtain ⟨r1, r2, r3, r4⟩ := h1.row q y hy
      exact ⟨row_kept r1 hS (fun b hb => hn (r3 b hb) (fun e9 => by cases e9 <;> exact e rfl) (fun e => by cases e)), row_kept r2 hS (fun b hb => hn (r4 b hb) (fun e9 => by cases e9 <;> exact e rfl) (fun e => by cases e)), fun b hb => h1.up t2.1 (r3 b hb) (fun e => by cases e), fun b hb => h1.up t2.1 (r4 b hb) (fun e => by cases e)⟩
  · exact Nat.lt_of_lt_of_le (t3 b hb) hset.size
  · exact h2.trans (w' := W') (Nat.le_trans h.same.size hws) t2
  · refine (h.on k).same.trans hS fun b hb e => ?_
    rcases e with e | e
    · exact Rq.old h2 (hT _ e) (fun e => by cases e) hb
    · subst e
      exact Rq.old h2 hga (fun e => by cases e) hb
end Go.Proofs.Ytbjmdpfoeeadeaa.Ch.Mc

namespace Go.Proofs.Ytbjmdpfoeeadeaa.Ch.Mc
open Go.RowKit

theorem results_tmp4 {fn : Func} {t u v x : Tmp} (h : fn.results = #[.tmp t, .tmp u, .tmp v, .tmp x]) (tmps : Array Value) (P : Program) (w : World) :
    (results fn tmps).run P w = .ok (.tuple #[tmps.getD t undef, tmps.getD u undef, tmps.getD v undef, tmps.getD x undef]) w := by
  simp [results, h]
/-- What Do answers and leaves. -/
abbrev RoP (tg : Nat → Ug) (w : World) (rb n : Nat) (fl : Int) (s : Stp) (R' : Rr) (an : An) (e : Int) : Prop := Calls Try.prog 44 #[.pointer (some ⟨rb, 0, none⟩), stA s] w fun x w' => x = .returned (.tuple #[.bool an.found, .string an.value, .int .i64 an.status, .int .i64 e]) ∧ ∃ av ev L, Rq tg w w' rb n fl R' av ev L
theorem Rq.cells {tg : Nat → Ug} {w wx : World} {rb n : Nat} {fl : Int} {R : Rr} {av ev : Value} {L : List Rt} (h : Rq tg w wx rb n fl R av ev L) : rb < wx.heap.size ∧ (wx.cell? ⟨rb, 0, none⟩ = some (.int .i64 (n : Int)) ∧ wx.cell? ⟨rb, 1, none⟩ = some (.int .i64 fl) ∧ wx.cell? ⟨rb, 2, none⟩ = some (.int .i64 R.clock) ∧ wx.cell? ⟨rb, 3, none⟩ = some av ∧ wx.cell? ⟨rb, 4, none⟩ = some ev) ∧ ∀ o, wx.frozen? ⟨rb, o, none⟩ = false := by
  obtain ⟨tg', h1, -⟩ := h.ex
  have ho := h1.obj
  exact ⟨lt_of_heap ho, ⟨(cell_of ho 0).trans rfl, (cell_of ho 1).trans rfl, (cell_of ho 2).trans rfl, (cell_of ho 3).trans rfl, (cell_of ho 4).trans rfl⟩, frozen_of ho⟩
theorem Rq.runs {tg : Nat → Ug} {w wx : World} {rb n : Nat} {fl : Int} {R : Rr} {av ev : Value} {L : List Rt} (h : Rq tg w wx rb n fl R av ev L) {b cap : Nat} (ea : av = .slice (some ⟨b, 0, none⟩) L.length cap) {i : Nat} {x : Rt} (hx : L[i]? = some x) : b < wx.heap.size ∧ (∀ j u, j < 10 → (rnc1 x)[j]? = some u → wx.cell? ⟨b, i * 10 + j, none⟩ = some u) ∧ ∀ o, wx.frozen? ⟨b, o, none⟩ = false := by
  obtain ⟨tg', h1, -⟩ := h.ex
  have ha := h1.all
  obtain ⟨-, cur, hc⟩ := row_block ha (k := b) (by rw [ea]; rfl)
  rw [ea] at ha
  refine ⟨lt_of_heap hc, fun j u hj hu => ?_, frozen_of hc⟩
  obtain ⟨b', e1, -, -, c⟩ := row_cell ha (j := i * 10 + j) (u := u) (by rw [rnc_get hx j hj]; exact hu)
  cases e1
  exact c
theorem Rq.place {tg : Nat → Ug} {w wx : World} {rb n : Nat} {fl : Int} {R : Rr} {av ev : Value} {L : List Rt} (h : Rq tg w wx rb n fl R av ev L) {i : Nat} {x : Rt} (hx : L[i]? = some x) : ∃ b cap, av = .slice (some ⟨b, 0, none⟩) L.length cap := by
  obtain ⟨tg', h1, -⟩ := h.ex
  have ha := h1.all
  obtain ⟨a, cap, e, -, h0, hg⟩ := row_shape ha
  have hil := (List.getElem?_eq_some_iff.1 hx).1
  cases a with
  | none => have := (h0 rfl).1; omega
  | some ad =>
    obtain ⟨g, rfl, -⟩ := hg ad rfl
    exact ⟨g, cap, e⟩
theorem Rq.len {tg : Nat → Ug} {w wx : World} {rb n : Nat} {fl : Int} {R : Rr} {av ev : Value} {L : List Rt} (h : Rq tg w wx rb n fl R av ev L) : L.map (·.1) = R.all := by
  obtain ⟨tg', h1, -⟩ := h.ex
  exact h1.map
/-- The machine while transaction i is written: it is r by now. -/
def Fx (tg : Nat → Ug) (w wx : World) (rb n : Nat) (fl : Int) (R : Rr) (av ev : Value) (i : Nat) (r : Rn) (x2 : Value × Value) (ll : Nat) : Prop := ∃ L, L.length = ll ∧ L[i]? = some (r, x2) ∧ Rq tg w wx rb n fl { R with all := R.all.set i r } av ev L
theorem Fx.start {tg : Nat → Ug} {w wx : World} {rb n : Nat} {fl : Int} {R : Rr} {av ev : Value} {L : List Rt} (h : Rq tg w wx rb n fl R av ev L) {i : Nat} {x : Rt} (hx : L[i]? = some x) : Fx tg w wx rb n fl R av ev i x.1 x.2 L.length := by
  refine ⟨L, rfl, hx, ?_⟩
  have hr : R.all[i]? = some x.1 := by rw [← h.len, List.getElem?_map, hx]; rfl
  have : R.all.set i x.1 = R.all := by
    apply List.ext_getElem?
    intro q
    rw [List.getElem?_set]
    split
    · rename_i e
      subst e
      rw [hr]
      first | rfl | (rw [if_pos (List.getElem?_eq_some_iff.1 hr).1])
    · rfl
  rw [this]
  exact h
theorem Fx.on {tg : Nat → Ug} {w wx wy : World} {rb n : Nat} {fl : Int} {R : Rr} {av ev : Value} {i : Nat} {r : Rn} {x2 : Value × Value} {ll : Nat} (h : Fx tg w wx rb n fl R av ev i r x2 ll) (k : Kept wx wy) : Fx tg w wy rb n fl R av ev i r x2 ll := by
  obtain ⟨L, h1, h2, h3⟩ := h
  exact ⟨L, h1, h2, h3.on k⟩
theorem Fx.put {tg : Nat → Ug} {w wx : World} {rb n : Nat} {fl : Int} {R : Rr} {av ev : Value} {i : Nat} {r : Rn} {x2 : Value × Value} {ll : Nat} (h : Fx tg w wx rb n fl R av ev i r x2 ll) {g : Nat} (hg : av.ownBlock = some g) {j : Nat} (hj : j < 10) {v : Value} (r' : Rn) (hv : (rnc1 (r, x2)).set j v = rnc1 (r', x2)) (ho : r'.t.ops = r.t.ops) (ht : r'.ts = r.ts) : Fx tg w (wx.setCell ⟨g, i * 10 + j, none⟩ v) rb n fl R av ev i r' x2 ll := by
  obtain ⟨L, h1, h2, h3⟩ := h
  have hil := (List.getElem?_eq_some_iff.1 h2).1
  have h4 := h3.cell hg h2 hj r' hv ho ht
  refine ⟨L.set i (r', x2), by rw [List.length_set]; exact h1, by rw [List.getElem?_set, if_pos rfl]; first | rfl | rw [if_pos hil], ?_⟩
  simp only [List.set_set] at h4
  exact h4
theorem Fx.cells {tg : Nat → Ug} {w wx : World} {rb n : Nat} {fl : Int} {R : Rr} {av ev : Value} {i : Nat} {r : Rn} {x2 : Value × Value} {ll : Nat} (h : Fx tg w wx rb n fl R av ev i r x2 ll) {b cap : Nat} (ea : av = .slice (some ⟨b, 0, none⟩) ll cap) : (rb < wx.heap.size ∧ wx.cell? ⟨rb, 2, none⟩ = some (.int .i64 R.clock) ∧ wx.cell? ⟨rb, 3, none⟩ = some (.slice (some ⟨b, 0, none⟩) ll cap) ∧ wx.cell? ⟨rb, 4, none⟩ = some ev) ∧ b < wx.heap.size ∧ (∀ j u, j < 10 → (rnc1 (r, x2))[j]? = some u → wx.cell? ⟨b, i * 10 + j, none⟩ = some u) ∧ ∀ o, wx.frozen? ⟨b, o, none⟩ = false := by
  obtain ⟨L, h1, h2, h3⟩ := h
  obtain ⟨hrl, ⟨-, -, m2, m3, m4⟩, -⟩ := h3.cells
  subst h1
  rw [ea] at m3
  exact ⟨⟨hrl, m2, m3, m4⟩, h3.runs ea h2⟩
theorem Fx.addEnd {tg : Nat → Ug} {w wx W' w4 : World} {rb n : Nat} {fl : Int} {R : Rr} {av ev v4 : Value} {i : Nat} {r : Rn} {x2 : Value × Value} {ll : Nat} (h : Fx tg w wx rb n fl R av ev i r x2 ll) (k : Kept wx W') {q : Nat} (ho : OwnI 0 w4 v4 ((R.ends.map fun i => ((i : Nat) : Int)) ++ [(q : Int)])) (hs : Same (fun b => ev.ownBlock = some b) W' w4) (hl : ∀ b, v4.ownBlock = some b → ev.ownBlock = some b ∨ W'.heap.size ≤ b) :
    (w4.cell? ⟨rb, 4, none⟩ = some ev ∧ w4.frozen? ⟨rb, 4, none⟩ = false ∧ rb < w4.heap.size ∧ ∃ a n c, v4 = .slice a n c) ∧ ∃ L, Rq tg w (w4.setCell ⟨rb, 4, none⟩ v4) rb n fl { R with all := R.all.set i r, ends := R.ends ++ [q] } av v4 L := by
  obtain ⟨L, h1, h2, h3⟩ := h
  obtain ⟨⟨h4, h5⟩, h6⟩ := h3.addEnd k (i := q) ho hs hl
  exact ⟨⟨(cell_of h4 4).trans rfl, frozen_of h4 4, lt_of_heap h4, h5⟩, L, h6⟩
theorem Fx.ends {tg : Nat → Ug} {w wx : World} {rb n : Nat} {fl : Int} {R : Rr} {av ev : Value} {i : Nat} {r : Rn} {x2 : Value × Value} {ll : Nat} (h : Fx tg w wx rb n fl R av ev i r x2 ll) : OwnI 0 wx ev (R.ends.map fun i => ((i : Nat) : Int)) := by
  obtain ⟨L, h1, h2, h3⟩ := h
  obtain ⟨tg', h4, -⟩ := h3.ex
  exact h4.ends
theorem Fx.rows {tg : Nat → Ug} {w wx : World} {rb n : Nat} {fl : Int} {R : Rr} {av ev : Value} {i : Nat} {r : Rn} {x2 : Value × Value} {ll : Nat} (h : Fx tg w wx rb n fl R av ev i r x2 ll) : OwnO 0 wx x2.1 r.t.ops ∧ OwnI 0 wx x2.2 r.ts := by
  obtain ⟨L, h1, h2, h3⟩ := h
  obtain ⟨tg', h4, -⟩ := h3.ex
  obtain ⟨r1, r2, -⟩ := h4.row i _ h2
  exact ⟨r1, r2⟩
theorem Fx.addOp {tg : Nat → Ug} {w wx W' w4 : World} {rb n : Nat} {fl : Int} {R : Rr} {av ev v4 : Value} {i : Nat} {r : Rn} {x2 : Value × Value} {ll : Nat} (h : Fx tg w wx rb n fl R av ev i r x2 ll) (k : Kept wx W') {g cap : Nat} (ea : av = .slice (some ⟨g, 0, none⟩) ll cap) {o : OpM} (ho : OwnO 0 w4 v4 (r.t.ops ++ [o])) (hs : Same (fun b => x2.1.ownBlock = some b) W' w4) (hl : ∀ b, v4.ownBlock = some b → x2.1.ownBlock = some b ∨ W'.heap.size ≤ b) :
    (w4.cell? ⟨rb, 3, none⟩ = some (.slice (some ⟨g, 0, none⟩) ll cap) ∧ rb < w4.heap.size ∧ w4.cell? ⟨g, i * 10 + 7, none⟩ = some x2.1 ∧ w4.frozen? ⟨g, i * 10 + 7, none⟩ = false ∧ g < w4.heap.size ∧ ∃ a n c, v4 = .slice a n c) ∧ Fx tg w (w4.setCell ⟨g, i * 10 + 7, none⟩ v4) rb n fl R av ev i ⟨⟨r.t.f0, r.t.f1, r.t.f2, r.t.f3, r.t.f4, r.t.f5, r.t.f6, r.t.ops ++ [o]⟩, r.st, r.ts⟩ (v4, x2.2) ll := by
  obtain ⟨L, h1, h2, h3⟩ := h
  have hil := (List.getElem?_eq_some_iff.1 h2).1
  have hg : av.ownBlock = some g := by rw [ea]; rfl
  obtain ⟨⟨h4, h5, h7⟩, h6⟩ := h3.addOp k hg h2 (r' := ⟨⟨r.t.f0, r.t.f1, r.t.f2, r.t.f3, r.t.f4, r.t.f5, r.t.f6, r.t.ops ++ [o]⟩, r.st, r.ts⟩) (o := o) (fun _ => rfl) ⟨rfl, rfl⟩ ho hs hl
  obtain ⟨-, cur, hc⟩ := row_block h5 hg
  have h5' := h5
  rw [ea] at h5'
  obtain ⟨b', e1, -, -, c⟩ := row_cell h5' (j := i * 10 + 7) (u := x2.1) (by rw [rnc_get h2 7 (by decide)]; rfl)
  cases e1
  refine ⟨⟨(cell_of h4 3).trans (by rw [ea]; rfl), lt_of_heap h4, c, frozen_of hc _, lt_of_heap hc, h7⟩, L.set i (⟨⟨r.t.f0, r.t.f1, r.t.f2, r.t.f3, r.t.f4, r.t.f5, r.t.f6, r.t.ops ++ [o]⟩, r.st, r.ts⟩, (v4, x2.2)), by rw [List.length_set]; exact h1, by rw [List.getElem?_set, if_pos rfl]; first | rfl | rw [if_pos hil], ?_⟩
  simp only [List.set_set] at h6
  exact h6
theorem Fx.addAt {tg : Nat → Ug} {w wx W' w4 : World} {rb n : Nat} {fl : Int} {R : Rr} {av ev v4 : Value} {i : Nat} {r : Rn} {x2 : Value × Value} {ll : Nat} (h : Fx tg w wx rb n fl R av ev i r x2 ll) (k : Kept wx W') {g cap : Nat} (ea : av = .slice (some ⟨g, 0, none⟩) ll cap) {c : Int} (ho : OwnI 0 w4 v4 (r.ts ++ [c])) (hs : Same (fun b => x2.2.ownBlock = some b) W' w4) (hl : ∀ b, v4.ownBlock = some b → x2.2.ownBlock = some b ∨ W'.heap.size ≤ b) :
    (w4.cell? ⟨rb, 3, none⟩ = some (.slice (some ⟨g, 0, none⟩) ll cap) ∧ rb < w4.heap.size ∧ w4.cell? ⟨g, i * 10 + 9, none⟩ = some x2.2 ∧ w4.frozen? ⟨g, i * 10 + 9, none⟩ = false ∧ g < w4.heap.size ∧ ∃ a n c, v4 = .slice a n c) ∧ Fx tg w (w4.setCell ⟨g, i * 10 + 9, none⟩ v4) rb n fl R av ev i ⟨r.t, r.st, r.ts ++ [c]⟩ (x2.1, v4) ll := by
  obtain ⟨L, h1, h2, h3⟩ := h
  have hil := (List.getElem?_eq_some_iff.1 h2).1
  have hg : av.ownBlock = some g := by rw [ea]; rfl
  obtain ⟨⟨h4, h5, h7⟩, h6⟩ := h3.addAt k hg h2 (r' := ⟨r.t, r.st, r.ts ++ [c]⟩) (c := c) (fun _ => rfl) ⟨rfl, rfl⟩ ho hs hl
  obtain ⟨-, cur, hc⟩ := row_block h5 hg
  have h5' := h5
  rw [ea] at h5'
  obtain ⟨b', e1, -, -, cc⟩ := row_cell h5' (j := i * 10 + 9) (u := x2.2) (by rw [rnc_get h2 9 (by decide)]; rfl)
  cases e1
  refine ⟨⟨(cell_of h4 3).trans (by rw [ea]; rfl), lt_of_heap h4, cc, frozen_of hc _, lt_of_heap hc, h7⟩, L.set i (⟨r.t, r.st, r.ts ++ [c]⟩, (x2.1, v4)), by rw [List.length_set]; exact h1, by rw [List.getElem?_set, if_pos rfl]; first | rfl | rw [if_pos hil], ?_⟩
  simp only [List.set_set] at h6
  exact h6
set_option maxRecDepth 100000 in
set_option maxHeartbeats 3200000 in
theorem rdo_no {tg : Nat → Ug} {w : World} {rb n : Nat} {fl : Int} {R : Rr} {av ev : Value} {L : List Rt} (h : Rm tg w rb n fl R av ev L) (hs : Sml R) (s : Stp) (hk : s.key.size ≤ maxLen) (hv : s.value.size ≤ maxLen) (h0 : rCode n R s ≠ 0) : RoP tg w rb n fl s R an0 (rCode n R s) := by
  have K0 : Hid (Kept w (w.alloc (stO s))) := (Same.refl _ w).alloc _
  have G0 : Hid _ := heap_new w (stO s)
  have Q0 : Hid (Rq tg w (w.alloc (stO s)) rb n fl R av ev L) := (Rq.start h).on K0.out
  have HRF : Hid (Calls Try.prog 61 #[.pointer (some ⟨rb, 0, none⟩), stA s] (w.alloc (stO s)) fun e w' => e = .returned (.int .i64 (rCode n R s)) ∧ Kept (w.alloc (stO s)) w') := by
    obtain ⟨a, cap, ea, hrd⟩ := Rq.rd Q0.out
    exact rrefuse15 hrd hs s hk hv
  unfold RoP
  generalize rCode n R s = cd at *
  obtain ⟨kd, se, gp, k, v⟩ := s
  have f0 : (cd != 0) = true := by simpa using h0
  clear h hk hv
  unfold stA
  simp only
  go_enter Try.func44, Try.ntmps44
  go_upto_region 1 with fail
  generalize w.alloc (stO ⟨kd, se, gp, k, v⟩) = W at *
  generalize w.heap.size = g at G0 ⊢
  obtain ⟨c0, c1, c2, c3, c4⟩ := st_cells G0.out
  have hg := lt_of_heap G0.out
  simp only at c0 c1 c2 c3 c4
  go_wp2_with fail
  refine Calls.mono HRF.out ?_
  rintro r2 w2 ⟨rfl, k2⟩
  go_wp2_with fail
  ((try simp only [Exit.inBlock, Exit.then]); refine bodyPost_ret (results_tmp4 rfl _ _ _) rfl ?_)
  exact ⟨rfl, av, ev, L, Rq.on Q0.out k2⟩
set_option maxRecDepth 100000 in
set_option maxHeartbeats 3200000 in
theorem rdo_5 {tg : Nat → Ug} {w : World} {rb n : Nat} {fl : Int} {R : Rr} {av ev : Value} {L : List Rt} (h : Rm tg w rb n fl R av ev L) (hs : Sml R) (hc : 0 ≤ R.clock ∧ R.clock ≤ 1099511627776) (se gp : Int) (k v : ByteArray) (hk : k.size ≤ maxLen) (hv : v.size ≤ maxLen) (h0 : rCode n R ⟨5, se, gp, k, v⟩ = 0) (hgp : 0 ≤ gp ∧ gp ≤ 1000) {i : Nat} (ha : rAct R.all se = some i) : RoP tg w rb n fl ⟨5, se, gp, k, v⟩ (rEnd (rTick R (R.clock + 1 + gp)) i (sts (rPass fl (R.clock + 1 + gp) R.all (gR R.all i).t))) ⟨false, e0, sts (rPass fl (R.clock + 1 + gp) R.all (gR R.all i).t)⟩ 0 := by
  have K0 : Hid (Kept w (w.alloc (stO ⟨5, se, gp, k, v⟩))) := (Same.refl _ w).alloc _
  have G0 : Hid _ := heap_new w (stO ⟨5, se, gp, k, v⟩)
  have Q0 : Hid (Rq tg w (w.alloc (stO ⟨5, se, gp, k, v⟩)) rb n fl R av ev L) := (Rq.start h).on K0.out
  have HRF : Hid (Calls Try.prog 61 #[.pointer (some ⟨rb, 0, none⟩), stA ⟨5, se, gp, k, v⟩] (w.alloc (stO ⟨5, se, gp, k, v⟩)) fun e w' => e = .returned (.int .i64 0) ∧ Kept (w.alloc (stO ⟨5, se, gp, k, v⟩)) w') := by
    obtain ⟨a, cap, ea, hrd⟩ := Rq.rd Q0.out
    have := rrefuse15 hrd hs ⟨5, se, gp, k, v⟩ hk hv
    unfold RfP at this
    rw [h0] at this
    exact this
  obtain ⟨c, ec⟩ : ∃ c, c = R.clock + 1 + gp := ⟨_, rfl⟩
  have S1 : Hid (Sml (rTick R c)) := ⟨hs.n, hs.e, hs.o⟩
  have wr1 : IntKind.i64.wrap (1 + gp) = 1 + gp := by rw [IntKind.wrap_i64] <;> omega
  have wr2 : IntKind.i64.wrap (R.clock + (1 + gp)) = c := by rw [IntKind.wrap_i64] <;> omega
  have wb1 : -9223372036854775808 ≤ 1 + gp ∧ 1 + gp ≤ 9223372036854775807 := by omega
  have wb2 : -9223372036854775808 ≤ R.clock + (1 + gp) ∧ R.clock + (1 + gp) ≤ 9223372036854775807 := by omega
  have EQC : Hid (R.clock + (1 + gp) = c) := (by omega : R.clock + (1 + gp) = c)
  rw [← ec]
  unfold RoP
  have HA : Hid (rAct R.all se = some i) := ha
  have hi : i < R.all.length := by
    obtain ⟨r, h1, -⟩ := rAct_in ha
    exact (List.getElem?_eq_some_iff.1 h1).1
  obtain ⟨x, hx, ex⟩ : ∃ x, L[i]? = some x ∧ x.1 = gR R.all i := by
    have hm := h.map
    have hl : i < L.length := by rw [← hm, List.length_map] at hi; exact hi
    exact ⟨L[i], List.getElem?_eq_getElem hl, by rw [← hm]; exact (gR_of (by rw [List.getElem?_map, List.getElem?_eq_getElem hl]; rfl)).symm⟩
  have HX : Hid (L[i]? = some x) := hx
  have EX : Hid (x.1 = gR R.all i) := ex
  have HI : Hid (i < R.all.length) := hi
  obtain ⟨b, cap, ea⟩ := Rq.place Q0.out hx
  have EA : Hid (av = .slice (some ⟨b, 0, none⟩) L.length cap) := ea
  have OB : Hid (av.ownBlock = some b) := (by rw [ea]; rfl : av.ownBlock = some b)
  have hil := (List.getElem?_eq_some_iff.1 hx).1
  have hln : L.length ≤ 4096 := by have := hs.n; rw [← h.map, List.length_map] at this; exact this
  obtain ⟨pb, epb⟩ : ∃ pb, pb = rPass fl c R.all (gR R.all i).t := ⟨_, rfl⟩
  have EPB : Hid (pb = rPass fl c R.all (gR R.all i).t) := epb
  try rw [← epb]
  obtain ⟨ll, ell⟩ : ∃ ll, ll = L.length := ⟨_, rfl⟩
  rw [← ell] at EA hil hln
  have ELL : Hid (ll = L.length) := ell
  have hi2 : (i : Int) < (ll : Int) := by omega
  have hi3 : decide ((i : Int) < (ll : Int)) = true := decide_eq_true hi2
  clear ha hx ex hi ea epb ell
  clear h hk hv h0 ec
  unfold stA
  simp only
  go_enter Try.func44, Try.ntmps44
  go_upto_region 1 with fail
  generalize w.alloc (stO ⟨5, se, gp, k, v⟩) = W at *
  generalize w.heap.size = g at G0 ⊢
  obtain ⟨c0, c1, c2, c3, c4⟩ := st_cells G0.out
  have hg := lt_of_heap G0.out
  simp only at c0 c1 c2 c3 c4
  go_wp2_with fail
  refine Calls.mono HRF.out ?_
  rintro r2 w2 ⟨rfl, k2⟩
  have Q1 : Hid (Rq tg w w2 rb n fl R av ev L) := Rq.on Q0.out k2
  have G2 : Hid (w2.heap[g]? = some (stO ⟨5, se, gp, k, v⟩)) := (k2.block g hg (fun e => e)).trans G0.out
  clear c0 c1 c2 c3 c4 hg k2 Q0 G0 HRF K0
  obtain ⟨c0, c1, c2, c3, c4⟩ := st_cells G2.out
  have hg := lt_of_heap G2.out
  simp only at c0 c1 c2 c3 c4
  obtain ⟨hrl, ⟨-, -, m2, m3, -⟩, fz⟩ := Rq.cells Q1.out
  have fz2 := fz 2
  clear fz
  go_upto_region 5 with fail
  go_region
  have hgr : g ≠ rb := fun e => by
    obtain ⟨tg1, h1, -⟩ := Rq.ex Q1.out
    subst e
    exact types_ne G2.out h1.obj (by decide)
  have Q2 : Hid (Rq tg w ((w2.setCell ⟨rb, 2, none⟩ (.int .i64 c)).drew) rb n fl (rTick R c) av ev L) := Rq.on (Rq.clock Q1.out c) (Same.refl _ _).drew
  have G3 : Hid ((w2.setCell ⟨rb, 2, none⟩ (.int .i64 c)).drew.heap[g]? = some (stO ⟨5, se, gp, k, v⟩)) := (heap_set (w := w2) (p := ⟨rb, 2, none⟩) (u := .int .i64 c) hgr).trans G2.out
  generalize (w2.setCell ⟨rb, 2, none⟩ (.int .i64 c)).drew = W3 at *
  clear c0 c1 c2 c3 c4 hg m2 m3 fz2 hrl G2 Q1
  obtain ⟨c0, c1, c2, c3, c4⟩ := st_cells G3.out
  have hg := lt_of_heap G3.out
  simp only at c0 c1 c2 c3 c4
  have HAC : Hid (Calls Try.prog 62 #[.pointer (some ⟨rb, 0, none⟩), .int .i64 se] W3 fun e w' => e = .returned (.int .i64 (i : Int)) ∧ w' = W3) := by
    obtain ⟨a, cap, ea, hrd⟩ := Rq.rd Q2.out
    have h9 := ractive15 hrd S1.out.n se
    rw [show rAct (rTick R c).all se = some i from HA.out] at h9
    exact h9
  go_wp2_with fail
  refine Calls.mono HAC.out ?_
  rintro r4 w4 ⟨rfl, e4⟩
  subst e4
  clear HAC
  have HPA : Hid (Calls Try.prog 63 #[.pointer (some ⟨rb, 0, none⟩), .int .i64 (i : Int)] w4 fun e w' => e = .returned (.bool pb) ∧ Kept w4 w') := by
    obtain ⟨a, cap, ea, hrd⟩ := Rq.rd Q2.out
    have h9 := rpasses15 hrd S1.out (i := i) HI.out
    rw [show rPass fl (rTick R c).clock (rTick R c).all (gR (rTick R c).all i).t = pb from EPB.out.symm] at h9
    exact h9
  go_wp2_with fail
  refine Calls.mono HPA.out ?_
  rintro r5 W5 ⟨rfl, k5⟩
  have Q3 : Hid (Rq tg w W5 rb n fl (rTick R c) av ev L) := Rq.on Q2.out k5
  have G5 : Hid (W5.heap[g]? = some (stO ⟨5, se, gp, k, v⟩)) := (k5.block g hg (fun e => e)).trans G3.out
  clear c0 c1 c2 c3 c4 hg k5 Q2 G3 HPA
  obtain ⟨c0, c1, c2, c3, c4⟩ := st_cells G5.out
  have hg := lt_of_heap G5.out
  simp only at c0 c1 c2 c3 c4
  have F0 : Hid (Fx tg w W5 rb n fl (rTick R c) av ev i x.1 x.2 ll) := (by rw [ELL.out]; exact Fx.start Q3.out HX.out)
  clear Q3
  cases pb with
  | true =>
    obtain ⟨⟨hrl, m2, m3, -⟩, hbl, hcl, fz⟩ := Fx.cells F0.out EA.out
    have cj := hcl 3 _ (by decide) rfl
    have fj := fz (i * 10 + 3)
    clear hcl fz
    simp only [rTick] at m2
    go_upto_region 21 with fail
    go_region
    have F1 : Hid (Fx tg w (W5.setCell ⟨b, i * 10 + 3, none⟩ (.int .i64 c)).drew rb n fl (rTick R c) av ev i (⟨⟨x.1.t.f0, x.1.t.f1, x.1.t.f2, c, x.1.t.f4, x.1.t.f5, x.1.t.f6, x.1.t.ops⟩, x.1.st, x.1.ts⟩ : Rn) x.2 ll) := Fx.on (Fx.put F0.out OB.out (j := 3) (by decide) (⟨⟨x.1.t.f0, x.1.t.f1, x.1.t.f2, c, x.1.t.f4, x.1.t.f5, x.1.t.f6, x.1.t.ops⟩, x.1.st, x.1.ts⟩ : Rn) rfl rfl rfl) (Same.refl _ _).drew
    generalize (W5.setCell ⟨b, i * 10 + 3, none⟩ (.int .i64 c)).drew = W6 at *
    clear hrl m2 m3 hbl cj fj F0
    obtain ⟨⟨hrl, m2, m3, -⟩, hbl, hcl, fz⟩ := Fx.cells F1.out EA.out
    have cj := hcl 5 _ (by decide) rfl
    have fj := fz (i * 10 + 5)
    clear hcl fz
    simp only [rTick] at m2
    go_upto_region 22 with fail
    go_region
    have F2 : Hid (Fx tg w (W6.setCell ⟨b, i * 10 + 5, none⟩ (.int .i64 c)).drew rb n fl (rTick R c) av ev i (⟨⟨x.1.t.f0, x.1.t.f1, x.1.t.f2, c, x.1.t.f4, c, x.1.t.f6, x.1.t.ops⟩, x.1.st, x.1.ts⟩ : Rn) x.2 ll) := Fx.on (Fx.put F1.out OB.out (j := 5) (by decide) (⟨⟨x.1.t.f0, x.1.t.f1, x.1.t.f2, c, x.1.t.f4, c, x.1.t.f6, x.1.t.ops⟩, x.1.st, x.1.ts⟩ : Rn) rfl rfl rfl) (Same.refl _ _).drew
    generalize (W6.setCell ⟨b, i * 10 + 5, none⟩ (.int .i64 c)).drew = W7 at *
    clear hrl m2 m3 hbl cj fj F1
    obtain ⟨⟨hrl, m2, m3, -⟩, hbl, hcl, fz⟩ := Fx.cells F2.out EA.out
    have cj := hcl 6 _ (by decide) rfl
    have fj := fz (i * 10 + 6)
    clear hcl fz
    simp only [rTick] at m2
    go_upto_region 24 with fail
    skip
    have F3 : Hid (Fx tg w (W7.setCell ⟨b, i * 10 + 6, none⟩ (.int .i64 1)) rb n fl (rTick R c) av ev i (⟨⟨x.1.t.f0, x.1.t.f1, x.1.t.f2, c, x.1.t.f4, c, 1, x.1.t.ops⟩, x.1.st, x.1.ts⟩ : Rn) x.2 ll) := Fx.on (Fx.put F2.out OB.out (j := 6) (by decide) (⟨⟨x.1.t.f0, x.1.t.f1, x.1.t.f2, c, x.1.t.f4, c, 1, x.1.t.ops⟩, x.1.st, x.1.ts⟩ : Rn) rfl rfl rfl) (Same.refl _ _)
    generalize (W7.setCell ⟨b, i * 10 + 6, none⟩ (.int .i64 1)) = W8 at *
    clear hrl m2 m3 hbl cj fj F2
    obtain ⟨⟨hrl, m2, m3, -⟩, hbl, hcl, fz⟩ := Fx.cells F3.out EA.out
    have cj := hcl 8 _ (by decide) rfl
    have fj := fz (i * 10 + 8)
    clear hcl fz
    simp only [rTick] at m2
    go_upto_region 25 with fail
    skip
    have F4 : Hid (Fx tg w (W8.setCell ⟨b, i * 10 + 8, none⟩ (.int .i64 1)) rb n fl (rTick R c) av ev i (⟨⟨x.1.t.f0, x.1.t.f1, x.1.t.f2, c, x.1.t.f4, c, 1, x.1.t.ops⟩, 1, x.1.ts⟩ : Rn) x.2 ll) := Fx.on (Fx.put F3.out OB.out (j := 8) (by decide) (⟨⟨x.1.t.f0, x.1.t.f1, x.1.t.f2, c, x.1.t.f4, c, 1, x.1.t.ops⟩, 1, x.1.ts⟩ : Rn) rfl rfl rfl) (Same.refl _ _)
    generalize (W8.setCell ⟨b, i * 10 + 8, none⟩ (.int .i64 1)) = W9 at *
    clear hrl m2 m3 hbl cj fj F3
    have HE : Hid (OwnI 0 W9 ev (R.ends.map fun i => ((i : Nat) : Int))) := (by have h9 := Fx.ends F4.out; exact h9)
    have K9 : Hid (Kept W9 (W9.alloc (.cells #[.int .i64 (i : Int)] 3 (0, 0)))) := (Same.refl _ W9).alloc _
    have HAP : Hid (∀ ty, ∃ v' w', (Builtin.append_ #[107, 107] ty #[ev, .slice (some ⟨W9.heap.size, 0, none⟩) 1 1]).run Try.prog (W9.alloc (.cells #[.int .i64 (i : Int)] 3 (0, 0))) = .ok v' w' ∧ ((w'.cell? ⟨rb, 4, none⟩ = some ev ∧ w'.frozen? ⟨rb, 4, none⟩ = false ∧ rb < w'.heap.size ∧ ∃ a n c, v' = .slice a n c) ∧ ∃ L, Rq tg w (w'.setCell ⟨rb, 4, none⟩ v') rb n fl (rEnd (rTick R c) i 1) av v' L)) := fun ty => by
      obtain ⟨v', w', h1, h2, h3, h4⟩ := app_int (x := (i : Int)) (row_kept HE.out K9.out fun _ _ e => e) (heap_new W9 _) (by rw [List.length_map]; exact S1.out.e) (Nat.zero_le _) ty
      obtain ⟨h5, L4, h6⟩ := Fx.addEnd F4.out K9.out (q := i) h2 h3 h4
      refine ⟨v', w', h1, h5, L4, ?_⟩
      have hR : rEnd (rTick R c) i 1 = { rTick R c with all := (rTick R c).all.set i (⟨⟨x.1.t.f0, x.1.t.f1, x.1.t.f2, c, x.1.t.f4, c, 1, x.1.t.ops⟩, 1, x.1.ts⟩ : Rn), ends := (rTick R c).ends ++ [i] } := by
        unfold rEnd endR endT
        rw [show gR (rTick R c).all i = x.1 from EX.out.symm]
        rfl
      rw [hR]
      exact h6
    obtain ⟨⟨hrl, -, m3, m4⟩, -⟩ := Fx.cells F4.out EA.out
    obtain ⟨ea, ecp, eev, -⟩ := row_shape HE.out
    rw [List.length_map] at eev
    clear HE F4
    obtain rfl := eev
    generalize R.ends.length = el at *
    go_wp2_with (at_builtin; refine wpList_app rfl (.tmp 143) (.tmp 145) 107 rfl _ _ rfl rfl _ HAP.out ?_; rintro v4 w4 ⟨⟨c40, f40, b40, a4, n4, cp4, rfl⟩, L4, ip⟩; have IP : Hid _ := ip; clear ip)
    ((try simp only [Exit.inBlock, Exit.then]); refine bodyPost_ret (results_tmp4 rfl _ _ _) rfl ?_)
    exact ⟨rfl, _, _, L4, IP.out⟩
  | false =>
    obtain ⟨⟨hrl, m2, m3, -⟩, hbl, hcl, fz⟩ := Fx.cells F0.out EA.out
    have cj := hcl 3 _ (by decide) rfl
    have fj := fz (i * 10 + 3)
    clear hcl fz
    simp only [rTick] at m2
    go_upto_region 21 with fail
    go_region
    have F1 : Hid (Fx tg w (W5.setCell ⟨b, i * 10 + 3, none⟩ (.int .i64 c)).drew rb n fl (rTick R c) av ev i (⟨⟨x.1.t.f0, x.1.t.f1, x.1.t.f2, c, x.1.t.f4, x.1.t.f5, x.1.t.f6, x.1.t.ops⟩, x.1.st, x.1.ts⟩ : Rn) x.2 ll) := Fx.on (Fx.put F0.out OB.out (j := 3) (by decide) (⟨⟨x.1.t.f0, x.1.t.f1, x.1.t.f2, c, x.1.t.f4, x.1.t.f5, x.1.t.f6, x.1.t.ops⟩, x.1.st, x.1.ts⟩ : Rn) rfl rfl rfl) (Same.refl _ _).drew
    generalize (W5.setCell ⟨b, i * 10 + 3, none⟩ (.int .i64 c)).drew = W6 at *
    clear hrl m2 m3 hbl cj fj F0
    obtain ⟨⟨hrl, m2, m3, -⟩, hbl, hcl, fz⟩ := Fx.cells F1.out EA.out
    have cj := hcl 5 _ (by decide) rfl
    have fj := fz (i * 10 + 5)
    clear hcl fz
    simp only [rTick] at m2
    go_upto_region 22 with fail
    go_region
    have F2 : Hid (Fx tg w (W6.setCell ⟨b, i * 10 + 5, none⟩ (.int .i64 c)).drew rb n fl (rTick R c) av ev i (⟨⟨x.1.t.f0, x.1.t.f1, x.1.t.f2, c, x.1.t.f4, c, x.1.t.f6, x.1.t.ops⟩, x.1.st, x.1.ts⟩ : Rn) x.2 ll) := Fx.on (Fx.put F1.out OB.out (j := 5) (by decide) (⟨⟨x.1.t.f0, x.1.t.f1, x.1.t.f2, c, x.1.t.f4, c, x.1.t.f6, x.1.t.ops⟩, x.1.st, x.1.ts⟩ : Rn) rfl rfl rfl) (Same.refl _ _).drew
    generalize (W6.setCell ⟨b, i * 10 + 5, none⟩ (.int .i64 c)).drew = W7 at *
    clear hrl m2 m3 hbl cj fj F1
    obtain ⟨⟨hrl, m2, m3, -⟩, hbl, hcl, fz⟩ := Fx.cells F2.out EA.out
    have cj := hcl 6 _ (by decide) rfl
    have fj := fz (i * 10 + 6)
    clear hcl fz
    simp only [rTick] at m2
    go_upto_region 24 with fail
    skip
    have F3 : Hid (Fx tg w (W7.setCell ⟨b, i * 10 + 6, none⟩ (.int .i64 0)) rb n fl (rTick R c) av ev i (⟨⟨x.1.t.f0, x.1.t.f1, x.1.t.f2, c, x.1.t.f4, c, 0, x.1.t.ops⟩, x.1.st, x.1.ts⟩ : Rn) x.2 ll) := Fx.on (Fx.put F2.out OB.out (j := 6) (by decide) (⟨⟨x.1.t.f0, x.1.t.f1, x.1.t.f2, c, x.1.t.f4, c, 0, x.1.t.ops⟩, x.1.st, x.1.ts⟩ : Rn) rfl rfl rfl) (Same.refl _ _)
    generalize (W7.setCell ⟨b, i * 10 + 6, none⟩ (.int .i64 0)) = W8 at *
    clear hrl m2 m3 hbl cj fj F2
    obtain ⟨⟨hrl, m2, m3, -⟩, hbl, hcl, fz⟩ := Fx.cells F3.out EA.out
    have cj := hcl 8 _ (by decide) rfl
    have fj := fz (i * 10 + 8)
    clear hcl fz
    simp only [rTick] at m2
    go_upto_region 25 with fail
    skip
    have F4 : Hid (Fx tg w (W8.setCell ⟨b, i * 10 + 8, none⟩ (.int .i64 1)) rb n fl (rTick R c) av ev i (⟨⟨x.1.t.f0, x.1.t.f1, x.1.t.f2, c, x.1.t.f4, c, 0, x.1.t.ops⟩, 1, x.1.ts⟩ : Rn) x.2 ll) := Fx.on (Fx.put F3.out OB.out (j := 8) (by decide) (⟨⟨x.1.t.f0, x.1.t.f1, x.1.t.f2, c, x.1.t.f4, c, 0, x.1.t.ops⟩, 1, x.1.ts⟩ : Rn) rfl rfl rfl) (Same.refl _ _)
    generalize (W8.setCell ⟨b, i * 10 + 8, none⟩ (.int .i64 1)) = W9 at *
    clear hrl m2 m3 hbl cj fj F3
    have HE : Hid (OwnI 0 W9 ev (R.ends.map fun i => ((i : Nat) : Int))) := (by have h9 := Fx.ends F4.out; exact h9)
    have K9 : Hid (Kept W9 (W9.alloc (.cells #[.int .i64 (i : Int)] 3 (0, 0)))) := (Same.refl _ W9).alloc _
    have HAP : Hid (∀ ty, ∃ v' w', (Builtin.append_ #[107, 107] ty #[ev, .slice (some ⟨W9.heap.size, 0, none⟩) 1 1]).run Try.prog (W9.alloc (.cells #[.int .i64 (i : Int)] 3 (0, 0))) = .ok v' w' ∧ ((w'.cell? ⟨rb, 4, none⟩ = some ev ∧ w'.frozen? ⟨rb, 4, none⟩ = false ∧ rb < w'.heap.size ∧ ∃ a n c, v' = .slice a n c) ∧ ∃ L, Rq tg w (w'.setCell ⟨rb, 4, none⟩ v') rb n fl (rEnd (rTick R c) i 0) av v' L)) := fun ty => by
      obtain ⟨v', w', h1, h2, h3, h4⟩ := app_int (x := (i : Int)) (row_kept HE.out K9.out fun _ _ e => e) (heap_new W9 _) (by rw [List.length_map]; exact S1.out.e) (Nat.zero_le _) ty
      obtain ⟨h5, L4, h6⟩ := Fx.addEnd F4.out K9.out (q := i) h2 h3 h4
      refine ⟨v', w', h1, h5, L4, ?_⟩
      have hR : rEnd (rTick R c) i 0 = { rTick R c with all := (rTick R c).all.set i (⟨⟨x.1.t.f0, x.1.t.f1, x.1.t.f2, c, x.1.t.f4, c, 0, x.1.t.ops⟩, 1, x.1.ts⟩ : Rn), ends := (rTick R c).ends ++ [i] } := by
        unfold rEnd endR endT
        rw [show gR (rTick R c).all i = x.1 from EX.out.symm]
        rfl
      rw [hR]
      exact h6
    obtain ⟨⟨hrl, -, m3, m4⟩, -⟩ := Fx.cells F4.out EA.out
    obtain ⟨ea, ecp, eev, -⟩ := row_shape HE.out
    rw [List.length_map] at eev
    clear HE F4
    obtain rfl := eev
    generalize R.ends.length = el at *
    go_wp2_with (at_builtin; refine wpList_app rfl (.tmp 143) (.tmp 145) 107 rfl _ _ rfl rfl _ HAP.out ?_; rintro v4 w4 ⟨⟨c40, f40, b40, a4, n4, cp4, rfl⟩, L4, ip⟩; have IP : Hid _ := ip; clear ip)
    ((try simp only [Exit.inBlock, Exit.then]); refine bodyPost_ret (results_tmp4 rfl _ _ _) rfl ?_)
    exact ⟨rfl, _, _, L4, IP.out⟩
set_option maxRecDepth 100000 in
set_option maxHeartbeats 3200000 in
theorem rdo_6 {tg : Nat → Ug} {w : World} {rb n : Nat} {fl : Int} {R : Rr} {av ev : Value} {L : List Rt} (h : Rm tg w rb n fl R av ev L) (hs : Sml R) (hc : 0 ≤ R.clock ∧ R.clock ≤ 1099511627776) (se gp : Int) (k v : ByteArray) (hk : k.size ≤ maxLen) (hv : v.size ≤ maxLen) (h0 : rCode n R ⟨6, se, gp, k, v⟩ = 0) (hgp : 0 ≤ gp ∧ gp ≤ 1000) {i : Nat} (ha : rAct R.all se = some i) : RoP tg w rb n fl ⟨6, se, gp, k, v⟩ (rEnd (rTick R (R.clock + 1 + gp)) i 0) ⟨false, e0, 0⟩ 0 := by
  have K0 : Hid (Kept w (w.alloc (stO ⟨6, se, gp, k, v⟩))) := (Same.refl _ w).alloc _
  have G0 : Hid _ := heap_new w (stO ⟨6, se, gp, k, v⟩)
  have Q0 : Hid (Rq tg w (w.alloc (stO ⟨6, se, gp, k, v⟩)) rb n fl R av ev L) := (Rq.start h).on K0.out
  have HRF : Hid (Calls Try.prog 61 #[.pointer (some ⟨rb, 0, none⟩), stA ⟨6, se, gp, k, v⟩] (w.alloc (stO ⟨6, se, gp, k, v⟩)) fun e w' => e = .returned (.int .i64 0) ∧ Kept (w.alloc (stO ⟨6, se, gp, k, v⟩)) w') := by
    obtain ⟨a, cap, ea, hrd⟩ := Rq.rd Q0.out
    have := rrefuse15 hrd hs ⟨6, se, gp, k, v⟩ hk hv
    unfold RfP at this
    rw [h0] at this
    exact this
  obtain ⟨c, ec⟩ : ∃ c, c = R.clock + 1 + gp := ⟨_, rfl⟩
  have S1 : Hid (Sml (rTick R c)) := ⟨hs.n, hs.e, hs.o⟩
  have wr1 : IntKind.i64.wrap (1 + gp) = 1 + gp := by rw [IntKind.wrap_i64] <;> omega
  have wr2 : IntKind.i64.wrap (R.clock + (1 + gp)) = c := by rw [IntKind.wrap_i64] <;> omega
  have wb1 : -9223372036854775808 ≤ 1 + gp ∧ 1 + gp ≤ 9223372036854775807 := by omega
  have wb2 : -9223372036854775808 ≤ R.clock + (1 + gp) ∧ R.clock + (1 + gp) ≤ 9223372036854775807 := by omega
  have EQC : Hid (R.clock + (1 + gp) = c) := (by omega : R.clock + (1 + gp) = c)
  rw [← ec]
  unfold RoP
  have HA : Hid (rAct R.all se = some i) := ha
  have hi : i < R.all.length := by
    obtain ⟨r, h1, -⟩ := rAct_in ha
    exact (List.getElem?_eq_some_iff.1 h1).1
  obtain ⟨x, hx, ex⟩ : ∃ x, L[i]? = some x ∧ x.1 = gR R.all i := by
    have hm := h.map
    have hl : i < L.length := by rw [← hm, List.length_map] at hi; exact hi
    exact ⟨L[i], List.getElem?_eq_getElem hl, by rw [← hm]; exact (gR_of (by rw [List.getElem?_map, List.getElem?_eq_getElem hl]; rfl)).symm⟩
  have HX : Hid (L[i]? = some x) := hx
  have EX : Hid (x.1 = gR R.all i) := ex
  have HI : Hid (i < R.all.length) := hi
  obtain ⟨b, cap, ea⟩ := Rq.place Q0.out hx
  have EA : Hid (av = .slice (some ⟨b, 0, none⟩) L.length cap) := ea
  have OB : Hid (av.ownBlock = some b) := (by rw [ea]; rfl : av.ownBlock = some b)
  have hil := (List.getElem?_eq_some_iff.1 hx).1
  have hln : L.length ≤ 4096 := by have := hs.n; rw [← h.map, List.length_map] at this; exact this
  obtain ⟨pb, epb⟩ : ∃ pb, pb = rPass fl c R.all (gR R.all i).t := ⟨_, rfl⟩
  have EPB : Hid (pb = rPass fl c R.all (gR R.all i).t) := epb
  try rw [← epb]
  obtain ⟨ll, ell⟩ : ∃ ll, ll = L.length := ⟨_, rfl⟩
  rw [← ell] at EA hil hln
  have ELL : Hid (ll = L.length) := ell
  have hi2 : (i : Int) < (ll : Int) := by omega
  have hi3 : decide ((i : Int) < (ll : Int)) = true := decide_eq_true hi2
  clear ha hx ex hi ea epb ell
  clear h hk hv h0 ec
  unfold stA
  simp only
  go_enter Try.func44, Try.ntmps44
  go_upto_region 1 with fail
  generalize w.alloc (stO ⟨6, se, gp, k, v⟩) = W at *
  generalize w.heap.size = g at G0 ⊢
  obtain ⟨c0, c1, c2, c3, c4⟩ := st_cells G0.out
  have hg := lt_of_heap G0.out
  simp only at c0 c1 c2 c3 c4
  go_wp2_with fail
  refine Calls.mono HRF.out ?_
  rintro r2 w2 ⟨rfl, k2⟩
  have Q1 : Hid (Rq tg w w2 rb n fl R av ev L) := Rq.on Q0.out k2
  have G2 : Hid (w2.heap[g]? = some (stO ⟨6, se, gp, k, v⟩)) := (k2.block g hg (fun e => e)).trans G0.out
  clear c0 c1 c2 c3 c4 hg k2 Q0 G0 HRF K0
  obtain ⟨c0, c1, c2, c3, c4⟩ := st_cells G2.out
  have hg := lt_of_heap G2.out
  simp only at c0 c1 c2 c3 c4
  obtain ⟨hrl, ⟨-, -, m2, m3, -⟩, fz⟩ := Rq.cells Q1.out
  have fz2 := fz 2
  clear fz
  go_upto_region 5 with fail
  go_region
  have hgr : g ≠ rb := fun e => by
    obtain ⟨tg1, h1, -⟩ := Rq.ex Q1.out
    subst e
    exact types_ne G2.out h1.obj (by decide)
  have Q2 : Hid (Rq tg w ((w2.setCell ⟨rb, 2, none⟩ (.int .i64 c)).drew) rb n fl (rTick R c) av ev L) := Rq.on (Rq.clock Q1.out c) (Same.refl _ _).drew
  have G3 : Hid ((w2.setCell ⟨rb, 2, none⟩ (.int .i64 c)).drew.heap[g]? = some (stO ⟨6, se, gp, k, v⟩)) := (heap_set (w := w2) (p := ⟨rb, 2, none⟩) (u := .int .i64 c) hgr).trans G2.out
  generalize (w2.setCell ⟨rb, 2, none⟩ (.int .i64 c)).drew = W3 at *
  clear c0 c1 c2 c3 c4 hg m2 m3 fz2 hrl G2 Q1
  obtain ⟨c0, c1, c2, c3, c4⟩ := st_cells G3.out
  have hg := lt_of_heap G3.out
  simp only at c0 c1 c2 c3 c4
  have HAC : Hid (Calls Try.prog 62 #[.pointer (some ⟨rb, 0, none⟩), .int .i64 se] W3 fun e w' => e = .returned (.int .i64 (i : Int)) ∧ w' = W3) := by
    obtain ⟨a, cap, ea, hrd⟩ := Rq.rd Q2.out
    have h9 := ractive15 hrd S1.out.n se
    rw [show rAct (rTick R c).all se = some i from HA.out] at h9
    exact h9
  go_wp2_with fail
  refine Calls.mono HAC.out ?_
  rintro r4 w4 ⟨rfl, e4⟩
  subst e4
  clear HAC
  have HPA : Hid (Calls Try.prog 63 #[.pointer (some ⟨rb, 0, none⟩), .int .i64 (i : Int)] w4 fun e w' => e = .returned (.bool pb) ∧ Kept w4 w') := by
    obtain ⟨a, cap, ea, hrd⟩ := Rq.rd Q2.out
    have h9 := rpasses15 hrd S1.out (i := i) HI.out
    rw [show rPass fl (rTick R c).clock (rTick R c).all (gR (rTick R c).all i).t = pb from EPB.out.symm] at h9
    exact h9
  go_wp2_with fail
  refine Calls.mono HPA.out ?_
  rintro r5 W5 ⟨rfl, k5⟩
  have Q3 : Hid (Rq tg w W5 rb n fl (rTick R c) av ev L) := Rq.on Q2.out k5
  have G5 : Hid (W5.heap[g]? = some (stO ⟨6, se, gp, k, v⟩)) := (k5.block g hg (fun e => e)).trans G3.out
  clear c0 c1 c2 c3 c4 hg k5 Q2 G3 HPA
  obtain ⟨c0, c1, c2, c3, c4⟩ := st_cells G5.out
  have hg := lt_of_heap G5.out
  simp only at c0 c1 c2 c3 c4
  have F0 : Hid (Fx tg w W5 rb n fl (rTick R c) av ev i x.1 x.2 ll) := (by rw [ELL.out]; exact Fx.start Q3.out HX.out)
  clear Q3
  obtain ⟨⟨hrl, m2, m3, -⟩, hbl, hcl, fz⟩ := Fx.cells F0.out EA.out
  have cj := hcl 3 _ (by decide) rfl
  have fj := fz (i * 10 + 3)
  clear hcl fz
  simp only [rTick] at m2
  go_upto_region 21 with fail
  go_region
  have F1 : Hid (Fx tg w (W5.setCell ⟨b, i * 10 + 3, none⟩ (.int .i64 c)).drew rb n fl (rTick R c) av ev i (⟨⟨x.1.t.f0, x.1.t.f1, x.1.t.f2, c, x.1.t.f4, x.1.t.f5, x.1.t.f6, x.1.t.ops⟩, x.1.st, x.1.ts⟩ : Rn) x.2 ll) := Fx.on (Fx.put F0.out OB.out (j := 3) (by decide) (⟨⟨x.1.t.f0, x.1.t.f1, x.1.t.f2, c, x.1.t.f4, x.1.t.f5, x.1.t.f6, x.1.t.ops⟩, x.1.st, x.1.ts⟩ : Rn) rfl rfl rfl) (Same.refl _ _).drew
  generalize (W5.setCell ⟨b, i * 10 + 3, none⟩ (.int .i64 c)).drew = W6 at *
  clear hrl m2 m3 hbl cj fj F0
  obtain ⟨⟨hrl, m2, m3, -⟩, hbl, hcl, fz⟩ := Fx.cells F1.out EA.out
  have cj := hcl 5 _ (by decide) rfl
  have fj := fz (i * 10 + 5)
  clear hcl fz
  simp only [rTick] at m2
  go_upto_region 22 with fail
  go_region
  have F2 : Hid (Fx tg w (W6.setCell ⟨b, i * 10 + 5, none⟩ (.int .i64 c)).drew rb n fl (rTick R c) av ev i (⟨⟨x.1.t.f0, x.1.t.f1, x.1.t.f2, c, x.1.t.f4, c, x.1.t.f6, x.1.t.ops⟩, x.1.st, x.1.ts⟩ : Rn) x.2 ll) := Fx.on (Fx.put F1.out OB.out (j := 5) (by decide) (⟨⟨x.1.t.f0, x.1.t.f1, x.1.t.f2, c, x.1.t.f4, c, x.1.t.f6, x.1.t.ops⟩, x.1.st, x.1.ts⟩ : Rn) rfl rfl rfl) (Same.refl _ _).drew
  generalize (W6.setCell ⟨b, i * 10 + 5, none⟩ (.int .i64 c)).drew = W7 at *
  clear hrl m2 m3 hbl cj fj F1
  obtain ⟨⟨hrl, m2, m3, -⟩, hbl, hcl, fz⟩ := Fx.cells F2.out EA.out
  have cj := hcl 6 _ (by decide) rfl
  have fj := fz (i * 10 + 6)
  clear hcl fz
  simp only [rTick] at m2
  go_upto_region 24 with fail
  skip
  have F3 : Hid (Fx tg w (W7.setCell ⟨b, i * 10 + 6, none⟩ (.int .i64 0)) rb n fl (rTick R c) av ev i (⟨⟨x.1.t.f0, x.1.t.f1, x.1.t.f2, c, x.1.t.f4, c, 0, x.1.t.ops⟩, x.1.st, x.1.ts⟩ : Rn) x.2 ll) := Fx.on (Fx.put F2.out OB.out (j := 6) (by decide) (⟨⟨x.1.t.f0, x.1.t.f1, x.1.t.f2, c, x.1.t.f4, c, 0, x.1.t.ops⟩, x.1.st, x.1.ts⟩ : Rn) rfl rfl rfl) (Same.refl _ _)
  generalize (W7.setCell ⟨b, i * 10 + 6, none⟩ (.int .i64 0)) = W8 at *
  clear hrl m2 m3 hbl cj fj F2
  obtain ⟨⟨hrl, m2, m3, -⟩, hbl, hcl, fz⟩ := Fx.cells F3.out EA.out
  have cj := hcl 8 _ (by decide) rfl
  have fj := fz (i * 10 + 8)
  clear hcl fz
  simp only [rTick] at m2
  go_upto_region 25 with fail
  skip
  have F4 : Hid (Fx tg w (W8.setCell ⟨b, i * 10 + 8, none⟩ (.int .i64 1)) rb n fl (rTick R c) av ev i (⟨⟨x.1.t.f0, x.1.t.f1, x.1.t.f2, c, x.1.t.f4, c, 0, x.1.t.ops⟩, 1, x.1.ts⟩ : Rn) x.2 ll) := Fx.on (Fx.put F3.out OB.out (j := 8) (by decide) (⟨⟨x.1.t.f0, x.1.t.f1, x.1.t.f2, c, x.1.t.f4, c, 0, x.1.t.ops⟩, 1, x.1.ts⟩ : Rn) rfl rfl rfl) (Same.refl _ _)
  generalize (W8.setCell ⟨b, i * 10 + 8, none⟩ (.int .i64 1)) = W9 at *
  clear hrl m2 m3 hbl cj fj F3
  have HE : Hid (OwnI 0 W9 ev (R.ends.map fun i => ((i : Nat) : Int))) := (by have h9 := Fx.ends F4.out; exact h9)
  have K9 : Hid (Kept W9 (W9.alloc (.cells #[.int .i64 (i : Int)] 3 (0, 0)))) := (Same.refl _ W9).alloc _
  have HAP : Hid (∀ ty, ∃ v' w', (Builtin.append_ #[107, 107] ty #[ev, .slice (some ⟨W9.heap.size, 0, none⟩) 1 1]).run Try.prog (W9.alloc (.cells #[.int .i64 (i : Int)] 3 (0, 0))) = .ok v' w' ∧ ((w'.cell? ⟨rb, 4, none⟩ = some ev ∧ w'.frozen? ⟨rb, 4, none⟩ = false ∧ rb < w'.heap.size ∧ ∃ a n c, v' = .slice a n c) ∧ ∃ L, Rq tg w (w'.setCell ⟨rb, 4, none⟩ v') rb n fl (rEnd (rTick R c) i 0) av v' L)) := fun ty => by
    obtain ⟨v', w', h1, h2, h3, h4⟩ := app_int (x := (i : Int)) (row_kept HE.out K9.out fun _ _ e => e) (heap_new W9 _) (by rw [List.length_map]; exact S1.out.e) (Nat.zero_le _) ty
    obtain ⟨h5, L4, h6⟩ := Fx.addEnd F4.out K9.out (q := i) h2 h3 h4
    refine ⟨v', w', h1, h5, L4, ?_⟩
    have hR : rEnd (rTick R c) i 0 = { rTick R c with all := (rTick R c).all.set i (⟨⟨x.1.t.f0, x.1.t.f1, x.1.t.f2, c, x.1.t.f4, c, 0, x.1.t.ops⟩, 1, x.1.ts⟩ : Rn), ends := (rTick R c).ends ++ [i] } := by
      unfold rEnd endR endT
      rw [show gR (rTick R c).all i = x.1 from EX.out.symm]
      rfl
    rw [hR]
    exact h6
  obtain ⟨⟨hrl, -, m3, m4⟩, -⟩ := Fx.cells F4.out EA.out
  obtain ⟨ea, ecp, eev, -⟩ := row_shape HE.out
  rw [List.length_map] at eev
  clear HE F4
  obtain rfl := eev
  generalize R.ends.length = el at *
  go_wp2_with (at_builtin; refine wpList_app rfl (.tmp 143) (.tmp 145) 107 rfl _ _ rfl rfl _ HAP.out ?_; rintro v4 w4 ⟨⟨c40, f40, b40, a4, n4, cp4, rfl⟩, L4, ip⟩; have IP : Hid _ := ip; clear ip)
  ((try simp only [Exit.inBlock, Exit.then]); refine bodyPost_ret (results_tmp4 rfl _ _ _) rfl ?_)
  exact ⟨rfl, _, _, L4, IP.out⟩
end Go.Proofs.Ytbjmdpfoeeadeaa.Ch.Mc
