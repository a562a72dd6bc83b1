/- What is proved: the law on dropping answers true for every script, floor and bound; both forests lie in memory, apart of one another. -/
import Derived.Test.YtaiaahcblohknaaYDrw
import Derived.Test.YtaiaahcblohknaaYTwo
import Derived.Test.YtaiaahcblohknaaYOpO
import Derived.Test.YtaiaahcblohknaaYAnch
namespace Go.Proofs.Ytaiaahcblohknaa
open Go.RowKit

theorem drp_rdel (A : List Ks) (k : ByteArray) (x : Sp) (fl : Int) : drp (rdel A k x) fl = rdel (drp A fl) k x := by
  unfold drp rdel
  rw [List.filter_filter, List.filter_filter]
  exact List.filter_congr fun y _ => Bool.and_comm _ _
theorem drp_drp (A : List Ks) (fl : Int) : drp (drp A fl) fl = drp A fl := by
  unfold drp
  rw [List.filter_filter]
  exact List.filter_congr fun y _ => Bool.and_self _
theorem kf_drp (A : List Ks) (k : ByteArray) (fl : Int) : kf (drp A fl) k = (kf A k).filter fun s => decide (fl < s.t) := by
  unfold kf drp
  rw [List.filter_map, List.filter_filter, List.filter_filter]
  congr 1
  refine List.filter_congr fun y _ => ?_
  simp [Bool.and_comm]
theorem ov_drp (A : List Ks) (k : ByteArray) (fl tl : Int) : ovK (drp A fl) k fl tl = ovK A k fl tl := by
  unfold ovK
  rw [kf_drp, List.filter_filter]
  refine List.filter_congr fun y _ => ?_
  by_cases h : fl < y.t
  · simp [h]
  · simp [ovl, h]
theorem mem_drp {A : List Ks} {k : ByteArray} {fl : Int} {x : Sp} : x ∈ kf (drp A fl) k ↔ x ∈ kf A k ∧ fl < x.t := by
  rw [kf_drp, List.mem_filter]
  simp
/-- What is left comes of steps from j on. -/
def inD (l : List OpY) (j : Nat) (A : List Ks) : Prop := ∀ y ∈ A, ∃ i o, j ≤ i ∧ l[i]? = some o ∧ o.kind = 1 ∧ o.key.toList = y.key.toList ∧ o.s = y.s
theorem inD.ins {l : List OpY} {A : List Ks} (h : inD l 0 A) {j : Nat} {o : OpY} (ho : l[j]? = some o) (hk : o.kind = 1) : inD l 0 (insI A o.key o.s) := by
  unfold insI
  split
  · intro y hy
    rcases rput_mem hy with rfl | hy
    · exact ⟨j, o, Nat.zero_le _, ho, hk, rfl, rfl⟩
    · exact h y hy
  · exact h
theorem inD.pass {l : List OpY} {j : Nat} {A : List Ks} (h : inD l j A) {o : OpY} (ho : l[j]? = some o) (hk : o.kind ≠ 1) : inD l (j + 1) A := fun y hy => by
  obtain ⟨i, o', h1, h2, h3, h4⟩ := h y hy
  refine ⟨i, o', ?_, h2, h3, h4⟩
  by_cases hij : i = j
  · rw [hij, ho] at h2
    cases h2
    exact absurd h3 hk
  · omega
theorem inD.del {l : List OpY} {j : Nat} {A : List Ks} (h : inD l j A) {o : OpY} (ho : l[j]? = some o) : inD l (j + 1) (rdel A o.key o.s) := fun y hy => by
  unfold rdel at hy
  obtain ⟨hy1, hy2⟩ := List.mem_filter.1 hy
  obtain ⟨i, o', h1, h2, h3, h4, h5⟩ := h y hy1
  refine ⟨i, o', ?_, h2, h3, h4, h5⟩
  by_cases hij : i = j
  · rw [hij, ho] at h2
    cases h2
    simp [h4, h5] at hy2
  · omega
theorem inD.end_' {l : List OpY} {j : Nat} {A : List Ks} (h : inD l j A) (hj : l.length ≤ j) : A = [] := by
  refine List.eq_nil_iff_forall_not_mem.2 fun y hy => ?_
  obtain ⟨i, o', h1, h2, -⟩ := h y hy
  have := (List.getElem?_eq_some_iff.1 h2).1
  omega
/-- How many are left behind a span that was taken out. -/
theorem drp_left {A : List Ks} {k : ByteArray} {x : Sp} {fl : Int} (hs : Srt (kf (drp A fl) k)) (hx : x ∈ kf A k) : (drp (rdel A k x) fl).length + (if fl < x.t then 1 else 0) = (drp A fl).length := by
  rw [drp_rdel]
  by_cases h : fl < x.t
  · rw [if_pos h]
    exact rdel_length hs (mem_drp.2 ⟨hx, h⟩)
  · rw [if_neg h, rdel_none (fun h9 => h (mem_drp.1 h9).2)]
    rfl
abbrev opO (o : OpY) : Obj := .cells #[.int .i64 o.kind, .int .i64 o.a, .int .i64 o.b, .string o.key, .int .i64 o.s.f, .int .i64 o.s.t, .int .i64 o.s.i] 33 (0, 0)
theorem op_obj {w : World} {g : Nat} {o : OpY} (h : w.heap[g]? = some (opO o)) : w.cell? ⟨g, 0, none⟩ = some (.int .i64 o.kind) ∧ w.cell? ⟨g, 1, none⟩ = some (.int .i64 o.a) ∧ w.cell? ⟨g, 2, none⟩ = some (.int .i64 o.b) ∧ w.cell? ⟨g, 3, none⟩ = some (.string o.key) ∧ w.cell? ⟨g, 4, none⟩ = some (.int .i64 o.s.f) ∧ w.cell? ⟨g, 5, none⟩ = some (.int .i64 o.s.t) ∧ w.cell? ⟨g, 6, none⟩ = some (.int .i64 o.s.i) :=
  ⟨(cell_of h 0).trans rfl, (cell_of h 1).trans rfl, (cell_of h 2).trans rfl, (cell_of h 3).trans rfl, (cell_of h 4).trans rfl, (cell_of h 5).trans rfl, (cell_of h 6).trans rfl⟩
/-- A block that is neither's. -/
theorem ApS.stepB {w wr w' : World} {sb ob : Nat} {A A' B : List Ks} {F G : Nat → Prop} {m m' n : Nat} (h : ApS w wr sb ob A B F G m n) (hi : StpP F wr sb A' m' w') {g : Nat} (h1 : ¬ F g) {o : Obj} (hg : wr.heap[g]? = some o) : ∃ F', ApS w w' sb ob A' B F' G m' n ∧ ¬ F' g ∧ w'.heap[g]? = some o := by
  obtain ⟨F', hs⟩ := h.step hi
  obtain ⟨F2, q1, q2, q3⟩ := hi
  refine ⟨F2, ⟨q1, h.b.off q3 (fun x hx hf => h.dis x hf hx), fun x hx hy => ?_, fun x hx => ?_, h.lb, hs.kept⟩, fun hf => ?_, (q3.block g (lt_of_heap hg) h1).trans hg⟩
  · rcases q2 x hx with h9 | h9
    · exact h.dis x h9 hy
    · have := h.b.lt x hy; omega
  · rcases q2 x hx with h9 | h9
    · exact h.la x h9
    · exact Nat.le_trans h.kept.size h9
  · rcases q2 g hf with h9 | h9
    · exact h1 h9
    · have := lt_of_heap hg; omega
set_option maxRecDepth 100000 in
set_option maxHeartbeats 6400000 in
theorem drop_law (w : World) (a : Option Addr) (cap : Nat) (l : List OpY) (fl tl : Int) (hl : OpsAt w a l) (hs : Small l) (hll : l.length ≤ 2199023255552) :
    Calls Try.prog 4 #[.slice a l.length cap, .int .i64 fl, .int .i64 tl] w fun r w' => r = .returned (.bool true) ∧ Kept w w' := by
  have q := ptr_eql
  have HAN : Hid (∀ W, _) := anchor14
  have HNW : Hid (∀ W, _) := new14
  have HL : Hid _ := hl
  have HSM : Hid (Small l) := hs
  obtain ⟨L, eL⟩ : ∃ L, L = l.length := ⟨_, rfl⟩
  rw [← eL] at hll ⊢
  have EL : Hid (L = l.length) := eL
  clear hl eL hs
  go_enter Try.func4, Try.ntmps4
  go_wp2_with fail
  refine Calls.mono (HAN.out w) ?_
  rintro r w1 ⟨rfl, k1⟩
  have K1 : Hid _ := k1
  clear k1 HAN
  go_wp2_with fail
  refine Calls.mono (HNW.out w1) ?_
  rintro r w2 ⟨sb, F, rfl, f2, hF, k2⟩
  have HF2 : Hid (Fo F w2 sb [] 0) := f2
  have HFF : Hid _ := hF
  have K2 : Hid _ := Same.trans' K1.out k2
  clear f2 hF k2
  go_wp2_with fail
  refine Calls.mono (HNW.out w2) ?_
  rintro r w3 ⟨ob, G, rfl, f3, hG, k3⟩
  have HS0 : Hid (ApS w w3 sb ob [] [] F G 0 0) := ⟨HF2.out.on k3, f3, fun x hx hy => by have := HF2.out.lt x hx; have := hG x hy; omega, fun x hx => Nat.le_trans K1.out.size (HFF.out x hx), fun x hx => Nat.le_trans K2.out.size (hG x hx), Same.trans' K2.out k3⟩
  clear f3 hG k3 HF2 HFF K2 K1 HNW
  go_wp2_with fail
  clear q
  go_loopw [32] (fun iv wr => ∃ (j : Nat) (A : List Ks) (F G : Nat → Prop), j ≤ L ∧ iv = .int .i64 j ∧ ApS w wr sb ob A A F G j j ∧ inD l 0 A) (fun iv _ => L - (intOf iv).toNat)
  case atStart => exact ⟨0, [], F, G, Nat.zero_le _, rfl, HS0.out, fun y hy => by simp at hy⟩
  case round =>
    obtain ⟨j, A, F, G, hj, rfl, hS, hE⟩ := hrel
    have HSS : Hid (ApS w wr sb ob A A F G j j) := hS
    have HEE : Hid (inD l 0 A) := hE
    clear hS hE HS0
    by_cases hlt : j < L
    · have c1 : decide ((j : Int) < (L : Int)) = true := by simp only [decide_eq_true_eq]; omega
      have c2 : (j : Int) < (L : Int) := by omega
      have hlt3 : (0 : Int) ≤ (j : Int) := by omega
      obtain ⟨o, ho⟩ : ∃ o, l[j]? = some o := ⟨_, List.getElem?_eq_getElem (by rw [← show L = _ from EL.out]; exact hlt)⟩
      obtain ⟨b, off, rfl, hb, q0, q1, q2, q3, q4, q5, q6⟩ := (OpsAt.on HL.out HSS.out.kept) j o ho
      have hsm := HSM.out o (List.mem_of_getElem? ho)
      have K0 : Hid (Kept wr (wr.alloc (opO o))) := (Same.refl _ wr).alloc _
      have HSA : Hid (ApS w (wr.alloc (opO o)) sb ob A A F G j j) := HSS.out.on K0.out
      have G0 : Hid _ := heap_new wr (opO o)
      have NF : Hid (¬ F wr.heap.size ∧ ¬ G wr.heap.size) := ⟨fun e => by have := HSS.out.a.lt _ e; omega, fun e => by have := HSS.out.b.lt _ e; omega⟩
      have HMO : Hid (o.kind = 1 → inD l 0 (insI A o.key o.s)) := fun h9 => HEE.out.ins ho h9
      clear ho
      obtain ⟨kd, oa, ob2, k, ⟨xf, xt, xi⟩⟩ := o
      simp only at q0 q1 q2 q3 q4 q5 q6 hsm HMO
      have HKL : Hid (k.size ≤ maxLen) := hsm
      clear hsm
      go_upto_region 9 with fail
      generalize wr.alloc (opO ⟨kd, oa, ob2, k, ⟨xf, xt, xi⟩⟩) = Y at *
      generalize wr.heap.size = g at *
      clear q0 q1 q2 q3 q4 q5 q6 hb
      obtain ⟨q0, q1, q2, q3, q4, q5, q6⟩ := op_obj G0.out
      have hgl := lt_of_heap G0.out
      simp only at q0 q1 q2 q3 q4 q5 q6
      by_cases hkd : kd = 1
      · subst hkd
        have HI1 : Hid (∀ W', Kept Y W' → Calls Try.prog 12 #[.pointer (some ⟨sb, 0, none⟩), .string k, .agg #[.int .i64 xf, .int .i64 xt, .int .i64 xi]] W' fun r w4 => r = .returned (.int .i64 (codeI A k ⟨xf, xt, xi⟩)) ∧ ∃ F4, ApS w w4 sb ob (insI A k ⟨xf, xt, xi⟩) A F4 G (j + 1) j ∧ w4.heap[g]? = some (opO ⟨1, oa, ob2, k, ⟨xf, xt, xi⟩⟩)) := fun W' k' => by
          refine (insert14 (HSA.out.on k').a k HKL.out ⟨xf, xt, xi⟩ (by omega)).mono ?_
          rintro r w4 ⟨rfl, h4⟩
          obtain ⟨F4, s4, -, g4⟩ := (HSA.out.on k').stepB h4 NF.out.1 ((k'.block g hgl (fun e => e)).trans G0.out)
          exact ⟨rfl, F4, s4, g4⟩
        have HI2 : Hid (∀ (W : World) F', ApS w W sb ob (insI A k ⟨xf, xt, xi⟩) A F' G (j + 1) j → W.heap[g]? = some (opO ⟨1, oa, ob2, k, ⟨xf, xt, xi⟩⟩) → Calls Try.prog 12 #[.pointer (some ⟨ob, 0, none⟩), .string k, .agg #[.int .i64 xf, .int .i64 xt, .int .i64 xi]] W fun r w5 => r = .returned (.int .i64 (codeI A k ⟨xf, xt, xi⟩)) ∧ ∃ G5, ApS w w5 sb ob (insI A k ⟨xf, xt, xi⟩) (insI A k ⟨xf, xt, xi⟩) F' G5 (j + 1) (j + 1) ∧ w5.heap[g]? = some (opO ⟨1, oa, ob2, k, ⟨xf, xt, xi⟩⟩)) := fun W F' h9 hg9 => by
          refine (insert14 h9.b k HKL.out ⟨xf, xt, xi⟩ (by omega)).mono ?_
          rintro r w5 ⟨rfl, h5⟩
          obtain ⟨G5, s5, -, g5⟩ := h9.swap.stepB h5 NF.out.2 hg9
          exact ⟨rfl, G5, s5.swap, g5⟩
        have HMO2 : Hid _ := HMO.out rfl
        have HBX : Hid (∀ W' : World, W'.heap[g]? = some (opO ⟨1, oa, ob2, k, ⟨xf, xt, xi⟩⟩) → g < W'.heap.size ∧ W'.cell? ⟨g, 0, none⟩ = some (.int .i64 1) ∧ W'.cell? ⟨g, 3, none⟩ = some (.string k) ∧ W'.cell? ⟨g, 4, none⟩ = some (.int .i64 xf) ∧ W'.cell? ⟨g, 5, none⟩ = some (.int .i64 xt) ∧ W'.cell? ⟨g, 6, none⟩ = some (.int .i64 xi)) := fun W' h9 => by
          obtain ⟨q0, q1, q2, q3, q4, q5, q6⟩ := op_obj h9
          exact ⟨lt_of_heap h9, q0, q3, q4, q5, q6⟩
        generalize hcd : codeI A k ⟨xf, xt, xi⟩ = cd at *
        generalize hiA : insI A k ⟨xf, xt, xi⟩ = A2 at *
        have ncd : (cd != cd) = false := by simp
        clear hcd hiA HMO
        go_cut [53] (fun s53 wx => s53 = .bool false ∧ ∃ F' G', ApS w wx sb ob A2 A2 F' G' (j + 1) (j + 1))
        case first =>
          go_region_held3 (fun W' => g < W'.heap.size ∧ W'.cell? ⟨g, 0, none⟩ = some (.int .i64 1) ∧ W'.cell? ⟨g, 3, none⟩ = some (.string k) ∧ W'.cell? ⟨g, 4, none⟩ = some (.int .i64 xf) ∧ W'.cell? ⟨g, 5, none⟩ = some (.int .i64 xt) ∧ W'.cell? ⟨g, 6, none⟩ = some (.int .i64 xi))
            (exact HBX.out _ (by first | exact G5.out | exact G4.out | exact G0.out))
            (first
            | (go_at_call 12; have _t := S4; refine Calls.mono (HI2.out _ F4 (ApS.on S4.out (by (repeat (first | exact Same.refl _ _ | apply Same.drew | apply Same.drewN)); done)) G4.out) ?_; rintro r w5 ⟨rfl, G5', s5, g5⟩; have S5 : Hid (ApS w w5 sb ob A2 A2 F4 G5' (j + 1) (j + 1)) := s5; have G5 : Hid (w5.heap[g]? = some (opO ⟨1, oa, ob2, k, ⟨xf, xt, xi⟩⟩)) := g5; clear s5 g5)
            | (go_at_call 12; refine Calls.mono (HI1.out _ (by (repeat (first | exact Same.refl _ _ | apply Same.drew | apply Same.drewN)); done)) ?_; rintro r w4 ⟨rfl, F4, s4, g4⟩; have S4 : Hid (ApS w w4 sb ob A2 A F4 G (j + 1) j) := s4; have G4 : Hid (w4.heap[g]? = some (opO ⟨1, oa, ob2, k, ⟨xf, xt, xi⟩⟩)) := g4; clear s4 g4))
          all_goals
            go_wp2_with fail
            go_meet
            exact ⟨rfl, F4, G5', ApS.on S5.out (by (repeat (first | exact Same.refl _ _ | apply Same.drew | apply Same.drewN)); done)⟩
        case rest =>
          obtain ⟨rfl, F5, G5, s5⟩ := hcut
          have S5 : Hid _ := s5
          clear s5 HI1 HI2 HBX q0 q1 q2 q3 q4 q5 q6 hgl
          go_wp2_with fail
          go_roundw
          case rel => exact ⟨j + 1, A2, F5, G5, by omega, by simp, S5.out, HMO2.out⟩
          case measure => simp only [intOf]; omega
      · have d0 : (kd == 1) = false := by simpa using hkd
        go_quiet (fail)
        go_wp2_with fail
        go_roundw
        case rel => exact ⟨j + 1, A, F, G, by omega, by simp, ⟨(ApS.on HSA.out (Same.drewN (Same.refl _ _) _)).a.up (Nat.le_succ j), (ApS.on HSA.out (Same.drewN (Same.refl _ _) _)).b.up (Nat.le_succ j), HSA.out.dis, HSA.out.la, HSA.out.lb, Same.drewN HSA.out.kept _⟩, HEE.out⟩
        case measure => simp only [intOf]; omega
    · have c1 : decide ((j : Int) < (L : Int)) = false := by simp only [decide_eq_false_iff_not]; omega
      obtain rfl : L = j := by omega
      obtain ⟨n, en⟩ : ∃ n, n = A.length := ⟨_, rfl⟩
      obtain ⟨dl, ed⟩ : ∃ dl, dl = (drp A fl).length := ⟨_, rfl⟩
      obtain ⟨gn, eg⟩ : ∃ gn, gn = n - dl := ⟨_, rfl⟩
      have hdl : dl ≤ n := by rw [ed, en]; exact drp_length A fl
      have hnL : n ≤ L := by
        obtain ⟨nb, cp, fr, mb, e, N, D, R, FL, h1, h2, h3, h4, h5, h6⟩ := HSS.out.a
        rw [en]; exact h6
      have HC1 : Hid _ := count14 HSS.out.a
      rw [← en] at HC1
      have HD1 : Hid _ := drop14 HSS.out.a fl (by omega)
      rw [← en, ← ed, ← eg] at HD1
      have HS1 : Hid (∀ W, StpP F wr sb (drp A fl) L W → ∃ F', ApS w W sb ob (drp A fl) A F' G L L) := fun W h9 => HSS.out.step h9
      have HD2 : Hid (∀ W F', ApS w W sb ob (drp A fl) A F' G L L → Calls Try.prog 13 #[.pointer (some ⟨sb, 0, none⟩), .int .i64 fl] W fun r w' => r = .returned (.int .i64 0) ∧ ∃ F', ApS w w' sb ob (drp A fl) A F' G L L) := fun W F' h9 => by
        refine (drop14 h9.a fl (by omega)).mono ?_
        rintro r w' ⟨rfl, h8⟩
        rw [drp_drp] at h8 ⊢
        rw [Nat.sub_self]
        exact ⟨rfl, h9.step h8⟩
      have HC2 : Hid (∀ W F', ApS w W sb ob (drp A fl) A F' G L L → Calls Try.prog 11 #[.pointer (some ⟨sb, 0, none⟩)] W fun r w' => r = .returned (.int .i64 dl) ∧ w' = W) := fun W F' h9 => by rw [ed]; exact count14 h9.a
      have g1 : ¬ ((gn : Int) < 0) := by omega
      have g2 : decide ((gn : Int) < 0) = false := decide_eq_false g1
      have g3 : (n : Int) - (gn : Int) = (dl : Int) := by omega
      have g4 : ((dl : Int) != (dl : Int)) = false := by simp
      have g5 : (dl : Int) ≤ 3500000000000 := by omega
      have ED : Hid (dl = (drp A fl).length) := ed
      clear en ed eg hdl hnL
      go_wp2_with fail
      refine Calls.mono HC1.out ?_
      rintro r w4 ⟨rfl, e4⟩
      subst e4
      clear HC1
      go_wp2_with fail
      refine Calls.mono HD1.out ?_
      rintro r w5 ⟨rfl, h5⟩
      obtain ⟨F5, s5⟩ := HS1.out w5 h5
      have HC3 : Hid _ := HC2.out w5 F5 s5
      have HD3 : Hid _ := HD2.out w5 F5 s5
      clear h5 s5 HD1 HS1 HC2 HD2 HSS
      go_wp2_with fail
      refine Calls.mono HC3.out ?_
      rintro r w6 ⟨rfl, e6⟩
      subst e6
      clear HC3
      go_wp2_with fail
      refine Calls.mono HD3.out ?_
      rintro r w7 ⟨rfl, F7, s7⟩
      have S7 : Hid (ApS w w7 sb ob (drp A fl) A F7 G L L) := s7
      clear s7 HD3
      go_wp2_with fail
      clear g1 g2 g4
      go_loopw [13, 78] (fun lv iv wz => ∃ (j lf : Nat) (A' : List Ks) (F' G' : Nat → Prop), j ≤ L ∧ iv = .int .i64 j ∧ lv = .int .i64 lf ∧ ApS w wz sb ob (drp A' fl) A' F' G' L L ∧ lf + (drp A' fl).length = dl ∧ inD l j A') (fun _ iv _ => L - (intOf iv).toNat)
      case atStart => exact ⟨0, 0, A, F7, G, Nat.zero_le _, rfl, rfl, S7.out, by rw [Nat.zero_add]; exact ED.out.symm, HEE.out⟩
      case round =>
        obtain ⟨j, lf, A', F', G', hj, rfl, rfl, hS, hlf, hE⟩ := hrel
        have HSS : Hid (ApS w wr sb ob (drp A' fl) A' F' G' L L) := hS
        have HIN : Hid (inD l j A') := hE
        have HLF : Hid (lf + (drp A' fl).length = dl) := hlf
        have hlf9 : (lf : Int) ≤ (dl : Int) := by omega
        clear hS hE hlf S7 HEE
        by_cases hlt : j < L
        · have c1 : decide ((j : Int) < (L : Int)) = true := by simp only [decide_eq_true_eq]; omega
          have c2 : (j : Int) < (L : Int) := by omega
          have hlt3 : (0 : Int) ≤ (j : Int) := by omega
          obtain ⟨o, ho⟩ : ∃ o, l[j]? = some o := ⟨_, List.getElem?_eq_getElem (by rw [← show L = _ from EL.out]; exact hlt)⟩
          obtain ⟨b, off, rfl, hb, q0, q1, q2, q3, q4, q5, q6⟩ := (OpsAt.on HL.out HSS.out.kept) j o ho
          have hsm := HSM.out o (List.mem_of_getElem? ho)
          have K0 : Hid (Kept wr (wr.alloc (opO o))) := (Same.refl _ wr).alloc _
          have HSA : Hid (ApS w (wr.alloc (opO o)) sb ob (drp A' fl) A' F' G' L L) := HSS.out.on K0.out
          have G0 : Hid _ := heap_new wr (opO o)
          have NF : Hid (¬ F' wr.heap.size ∧ ¬ G' wr.heap.size) := ⟨fun e => by have := HSS.out.a.lt _ e; omega, fun e => by have := HSS.out.b.lt _ e; omega⟩
          have HPS : Hid (o.kind ≠ 1 → inD l (j + 1) A') := fun h9 => HIN.out.pass ho h9
          have HDL : Hid (inD l (j + 1) (rdel A' o.key o.s)) := HIN.out.del ho
          clear ho HIN
          obtain ⟨kd, oa, ob2, k, ⟨xf, xt, xi⟩⟩ := o
          simp only at q0 q1 q2 q3 q4 q5 q6 hsm HPS HDL
          have HKL : Hid (k.size ≤ maxLen) := hsm
          clear hsm
          by_cases hkd : kd = 1
          · subst hkd
            have HXS : Hid (ovK (drp A' fl) k fl tl = ovK A' k fl tl) := ov_drp A' k fl tl
            have HO1 : Hid (∀ W', Kept (wr.alloc (opO ⟨1, oa, ob2, k, ⟨xf, xt, xi⟩⟩)) W' → Calls Try.prog 9 #[.pointer (some ⟨sb, 0, none⟩), .string k, .int .i64 fl, .int .i64 tl] W' fun r w' => ∃ p c, r = .returned (.slice p (ovK A' k fl tl).length c) ∧ SpsAt w' p (ovK A' k fl tl) ∧ Kept W' w') := fun W' k' => by
              refine (overlap14 (HSA.out.on k').a k HKL.out fl tl (by omega)).mono ?_
              rintro r w' ⟨v, rfl, o', kk⟩
              rw [ov_drp] at o'
              obtain ⟨p, c, rfl, hv, -⟩ := OwnSp.at o'
              exact ⟨p, c, rfl, hv, kk⟩
            have HO2 : Hid (∀ W', Kept (wr.alloc (opO ⟨1, oa, ob2, k, ⟨xf, xt, xi⟩⟩)) W' → Calls Try.prog 9 #[.pointer (some ⟨ob, 0, none⟩), .string k, .int .i64 fl, .int .i64 tl] W' fun r w' => ∃ p c, r = .returned (.slice p (ovK A' k fl tl).length c) ∧ SpsAt w' p (ovK A' k fl tl) ∧ Kept W' w') := fun W' k' => by
              refine (overlap14 (HSA.out.on k').b k HKL.out fl tl (by omega)).mono ?_
              rintro r w' ⟨v, rfl, o', kk⟩
              obtain ⟨p, c, rfl, hv, -⟩ := OwnSp.at o'
              exact ⟨p, c, rfl, hv, kk⟩
            have hxn : ((ovK A' k fl tl).length : Int) ≤ 3500000000000 := by
              obtain ⟨nb, cp, fr, mb, e, N, D, R, FL, h1, h2, h3, h4, h5, h6⟩ := HSS.out.b
              have h9 : (ovK A' k fl tl).length ≤ L := Nat.le_trans (List.length_filter_le _ _) (Nat.le_trans (kf_length A' k) h6)
              omega
            have HR1 : Hid (∀ W', Kept (wr.alloc (opO ⟨1, oa, ob2, k, ⟨xf, xt, xi⟩⟩)) W' → Calls Try.prog 14 #[.pointer (some ⟨ob, 0, none⟩), .string k, .agg #[.int .i64 xf, .int .i64 xt, .int .i64 xi]] W' fun r w' => ∃ bb, r = .returned (.bool bb) ∧ ((bb = true ↔ Sp.mk xf xt xi ∈ kf A' k) ∧ ∃ G9, ApS w w' sb ob (drp A' fl) (rdel A' k ⟨xf, xt, xi⟩) F' G9 L L ∧ w'.heap[wr.heap.size]? = some (opO ⟨1, oa, ob2, k, ⟨xf, xt, xi⟩⟩))) := fun W' k' => by
              refine (remove14 (HSA.out.on k').b k HKL.out ⟨xf, xt, xi⟩ (by omega)).mono ?_
              rintro r w' ⟨⟨bb, rfl, hbb⟩, h9⟩
              obtain ⟨G9, s9, -, g9⟩ := (HSA.out.on k').swap.stepB h9 NF.out.2 ((k'.block _ (lt_of_heap G0.out) (fun e => e)).trans G0.out)
              exact ⟨bb, rfl, hbb, G9, s9.swap, g9⟩
            have HR2 : Hid (∀ (W' : World) G9, ApS w W' sb ob (drp A' fl) (rdel A' k ⟨xf, xt, xi⟩) F' G9 L L → W'.heap[wr.heap.size]? = some (opO ⟨1, oa, ob2, k, ⟨xf, xt, xi⟩⟩) → Sp.mk xf xt xi ∈ kf A' k → Calls Try.prog 14 #[.pointer (some ⟨sb, 0, none⟩), .string k, .agg #[.int .i64 xf, .int .i64 xt, .int .i64 xi]] W' fun r w' => r = .returned (.bool (decide (fl < xt))) ∧ ∃ F9, ApS w w' sb ob (drp (rdel A' k ⟨xf, xt, xi⟩) fl) (rdel A' k ⟨xf, xt, xi⟩) F9 G9 L L ∧ w'.heap[wr.heap.size]? = some (opO ⟨1, oa, ob2, k, ⟨xf, xt, xi⟩⟩)) := fun W' G9 h8 hg8 hm => by
              refine (remove14 h8.a k HKL.out ⟨xf, xt, xi⟩ (by omega)).mono ?_
              rintro r w' ⟨⟨bb, rfl, hbb⟩, h9⟩
              obtain ⟨F9, s9, -, g9⟩ := h8.stepB h9 NF.out.1 hg8
              rw [← drp_rdel] at s9
              refine ⟨?_, F9, s9, g9⟩
              have : bb = decide (fl < xt) := by
                cases bb
                · exact (decide_eq_false fun h7 => by have := hbb.2 (mem_drp.2 ⟨hm, h7⟩); cases this).symm
                · exact (decide_eq_true (mem_drp.1 (hbb.1 rfl)).2).symm
              rw [this]
            have HLL : Hid (Sp.mk xf xt xi ∈ kf A' k → (drp (rdel A' k ⟨xf, xt, xi⟩) fl).length + (if fl < xt then 1 else 0) = (drp A' fl).length) := fun h9 => drp_left (HSS.out.a.wks.2 k) h9
            have HNO : Hid (Sp.mk xf xt xi ∉ kf A' k → rdel A' k ⟨xf, xt, xi⟩ = A') := fun h9 => rdel_none h9
            clear HXS HPS HSS
            go_upto_region 21 with fail
            generalize wr.alloc (opO ⟨1, oa, ob2, k, ⟨xf, xt, xi⟩⟩) = Y at *
            generalize wr.heap.size = g at *
            clear q0 q1 q2 q3 q4 q5 q6 hb
            obtain ⟨q0, q1, q2, q3, q4, q5, q6⟩ := op_obj G0.out
            have hgl := lt_of_heap G0.out
            simp only at q0 q1 q2 q3 q4 q5 q6
            generalize ovK A' k fl tl = xs at *
            obtain ⟨m, em⟩ : ∃ m, m = xs.length := ⟨_, rfl⟩
            rw [← em] at HO1 HO2 hxn
            have EM : Hid (m = xs.length) := em
            clear em
            have HBX : Hid (∀ W', Kept Y W' → W'.cell? ⟨g, 3, none⟩ = some (.string k)) := fun W' k' => (k'.cell (p := ⟨g, 3, none⟩) hgl (fun e => e)).trans q3
            go_cut [16, 17] (fun s16 s17 wx => ∃ a1 p1 a2 p2, s16 = .slice a1 m p1 ∧ s17 = .slice a2 m p2 ∧ SpsAt wx a1 xs ∧ SpsAt wx a2 xs ∧ Kept Y wx)
            case first =>
              go_region_held3 (fun W' => W'.cell? ⟨g, 3, none⟩ = some (.string k))
                (exact HBX.out _ (by (repeat (first | exact Same.refl _ _ | exact K5.out | exact K4.out | apply Same.drew | apply Same.drewN)); done))
                (first
                | (go_at_call 9; have _t := V4; refine Calls.mono (HO2.out _ (by (repeat (first | exact Same.refl _ _ | exact K4.out | apply Same.drew | apply Same.drewN)); done)) ?_; rintro e w5 ⟨a5, p5, rfl, o5, k5⟩; have E5 : Hid (SpsAt w5 a5 xs) := o5; have V5 : Hid (SpsAt w5 a4 xs) := SpsAt.on V4.out (by refine Same.trans' ?_ k5; (repeat (first | exact Same.refl _ _ | apply Same.drew | apply Same.drewN)); done); have K5 : Hid (Kept Y w5) := (by refine Same.trans' ?_ k5; (repeat (first | exact Same.refl _ _ | exact K4.out | apply Same.drew | apply Same.drewN)); done); clear o5 k5)
                | (go_at_call 9; refine Calls.mono (HO1.out _ (by (repeat (first | exact Same.refl _ _ | apply Same.drew | apply Same.drewN)); done)) ?_; rintro e w4 ⟨a4, p4, rfl, o4, k4⟩; have V4 : Hid (SpsAt w4 a4 xs) := o4; have K4 : Hid (Kept Y w4) := (by refine Same.trans' ?_ k4; (repeat (first | exact Same.refl _ _ | apply Same.drew | apply Same.drewN)); done); clear o4 k4))
              all_goals
                go_wp2_with fail
                go_meet
                have k9 : Kept w5 _ := (by (repeat (first | exact Same.refl _ _ | apply Same.drew | apply Same.drewN)); done)
                exact ⟨_, _, _, _, rfl, rfl, SpsAt.on V5.out k9, SpsAt.on E5.out k9, Same.trans' K5.out k9⟩
            case rest =>
              obtain ⟨a1, p1, a2, p2, rfl, rfl, va, ea, kz⟩ := hcut
              rename World => Z
              have VA : Hid (SpsAt Z a1 xs) := va
              have EA : Hid (SpsAt Z a2 xs) := ea
              have KZ : Hid (Kept Y Z) := kz
              have nl : ((m : Int) != (m : Int)) = false := by simp
              clear va ea kz HO1 HO2 HBX q0 q1 q2 q3 q4 q5 q6
              go_wp2_with fail
              go_loopw [104] (fun iv wz => ∃ z : Nat, z ≤ m ∧ iv = .int .i64 z ∧ Kept Z wz) (fun iv _ => m - (intOf iv).toNat)
              case atStart => exact ⟨0, Nat.zero_le _, rfl, Same.refl _ _⟩
              case round =>
                obtain ⟨z, hz, rfl, kz⟩ := hrel
                have KW : Hid (Kept Z wr) := kz
                clear kz
                by_cases hlt2 : z < m
                · have e1 : decide ((z : Int) < (m : Int)) = true := by simp only [decide_eq_true_eq]; omega
                  have e2 : (z : Int) < (m : Int) := by omega
                  obtain ⟨x, hx⟩ : ∃ x, xs[z]? = some x := ⟨_, List.getElem?_eq_getElem (by rw [← show m = _ from EM.out]; exact hlt2)⟩
                  obtain ⟨b1, o1, rfl, hb1, m0, m1, m2⟩ := (SpsAt.on VA.out KW.out) z x hx
                  have K9 : Hid _ := (Same.refl (fun _ => False) wr).alloc (spO x)
                  obtain ⟨b2, o2, rfl, hb2, n0, n1, n2⟩ := (SpsAt.on EA.out (Same.trans' KW.out K9.out)) z x hx
                  have GX : Hid _ := heap_new wr (spO x)
                  obtain ⟨yf, yt, yi⟩ := x
                  simp only at m0 m1 m2 n0 n1 n2
                  have nq := neq_one yf yt yi
                  clear hx hb1 hb2
                  go_upto_region 27 with fail
                  generalize wr.alloc (spO ⟨yf, yt, yi⟩) = Y2 at *
                  generalize wr.heap.size = gx at GX ⊢
                  obtain ⟨x0, x1, x2⟩ := sp_cells GX.out
                  simp only at x0 x1 x2
                  have hgx := lt_of_heap GX.out
                  clear m0 m1 m2
                  go_quiet (fail)
                  go_wp2_with fail
                  go_roundw
                  case rel => exact ⟨z + 1, by omega, by simp, Same.drewN (Same.trans' KW.out K9.out) _⟩
                  case measure => simp only [intOf]; omega
                · have e1 : decide ((z : Int) < (m : Int)) = false := by simp only [decide_eq_false_iff_not]; omega
                  have KY : Hid (Kept Y wr) := Same.trans' KZ.out KW.out
                  have HR3 : Hid _ := HR1.out wr KY.out
                  have GW : Hid _ := (KY.out.block g hgl (fun e => e)).trans G0.out
                  obtain ⟨q0, q1, q2, q3, q4, q5, q6⟩ := op_obj GW.out
                  have hgw := lt_of_heap GW.out
                  simp only at q0 q1 q2 q3 q4 q5 q6
                  clear VA EA KZ KW HR1
                  go_wp2_with fail
                  refine Calls.mono HR3.out ?_
                  rintro r w8 ⟨bb, rfl, hbb, G9, s9, g9⟩
                  clear q0 q1 q2 q3 q4 q5 q6 hgw HR3 GW
                  cases bb
                  · have e9 : rdel A' k ⟨xf, xt, xi⟩ = A' := HNO.out (fun h9 => by have := hbb.2 h9; cases this)
                    rw [e9] at s9 HDL
                    have S9 : Hid (ApS w w8 sb ob (drp A' fl) A' F' G9 L L) := s9
                    clear s9 hbb g9 e9 HR2 HLL HNO
                    go_wp2_with fail
                    go_roundw
                    case rel => exact ⟨j + 1, lf, A', F', G9, by omega, by simp, rfl, S9.out, HLF.out, HDL.out⟩
                    case measure => simp only [intOf]; omega
                  · have hm := hbb.1 rfl
                    have hll := HLL.out hm
                    have HR4 : Hid (∀ (W' : World), Kept w8 W' → _) := fun W' k' => HR2.out W' G9 (s9.on k') ((k'.block g (lt_of_heap g9) (fun e => e)).trans g9) hm
                    have GV : Hid (w8.heap[g]? = some (opO ⟨1, oa, ob2, k, ⟨xf, xt, xi⟩⟩)) := g9
                    have HBX : Hid (∀ W' : World, W'.heap[g]? = some (opO ⟨1, oa, ob2, k, ⟨xf, xt, xi⟩⟩) → g < W'.heap.size ∧ W'.cell? ⟨g, 3, none⟩ = some (.string k) ∧ W'.cell? ⟨g, 4, none⟩ = some (.int .i64 xf) ∧ W'.cell? ⟨g, 5, none⟩ = some (.int .i64 xt) ∧ W'.cell? ⟨g, 6, none⟩ = some (.int .i64 xi)) := fun W' h9 => by
                      obtain ⟨q0, q1, q2, q3, q4, q5, q6⟩ := op_obj h9
                      exact ⟨lt_of_heap h9, q3, q4, q5, q6⟩
                    obtain ⟨hgw, q3, q4, q5, q6⟩ := HBX.out w8 g9
                    clear s9 hbb g9 HR2 HLL HNO hm
                    have HLF2 : Hid ((drp (rdel A' k ⟨xf, xt, xi⟩) fl).length + (if fl < xt then 1 else 0) = (drp A' fl).length) := hll
                    clear hll
                    generalize hR : rdel A' k ⟨xf, xt, xi⟩ = R' at *
                    clear hR
                    go_upto_region 31 with fail
                    by_cases hfl : fl < xt
                    · have d1 : decide (fl < xt) = true := decide_eq_true hfl
                      rw [d1] at HR4
                      have HL2 : Hid (lf + 1 + (drp R' fl).length = dl) := by
                        have h1 : (drp R' fl).length + (if fl < xt then 1 else 0) = (drp A' fl).length := HLF2.out
                        rw [if_pos hfl] at h1
                        have h2 : lf + (drp A' fl).length = dl := HLF.out
                        have h3 : lf + 1 + (drp R' fl).length = dl := by omega
                        exact h3
                      go_cut [133] (fun s133 wx => s133 = .bool false ∧ ∃ F9, ApS w wx sb ob (drp R' fl) R' F9 G9 L L ∧ wx.heap[g]? = some (opO ⟨1, oa, ob2, k, ⟨xf, xt, xi⟩⟩))
                      case first =>
                        go_region_held3 (fun W' => g < W'.heap.size ∧ W'.cell? ⟨g, 3, none⟩ = some (.string k) ∧ W'.cell? ⟨g, 4, none⟩ = some (.int .i64 xf) ∧ W'.cell? ⟨g, 5, none⟩ = some (.int .i64 xt) ∧ W'.cell? ⟨g, 6, none⟩ = some (.int .i64 xi))
                          (exact HBX.out _ (by first | exact GU.out | exact GV.out))
                          ((go_at_call 14; refine Calls.mono (HR4.out _ (by (repeat (first | exact Same.refl _ _ | apply Same.drew | apply Same.drewN)); done)) ?_; rintro r w9 ⟨rfl, F9, s9, g9⟩; have SU : Hid (ApS w w9 sb ob (drp R' fl) R' F9 G9 L L) := s9; have GU : Hid (w9.heap[g]? = some (opO ⟨1, oa, ob2, k, ⟨xf, xt, xi⟩⟩)) := g9; clear s9 g9))
                        all_goals
                          go_wp2_with fail
                          go_meet
                          exact ⟨rfl, F9, ApS.on SU.out (by (repeat (first | exact Same.refl _ _ | apply Same.drew | apply Same.drewN)); done), GU.out⟩
                      case rest =>
                        obtain ⟨rfl, F9, s9, g9⟩ := hcut
                        rename World => X
                        have S9 : Hid (ApS w X sb ob (drp R' fl) R' F9 G9 L L) := s9
                        clear q3 q4 q5 q6 hgw
                        obtain ⟨hgw, q3, q4, q5, q6⟩ := HBX.out X g9
                        clear s9 g9 HR4 HBX
                        go_wp2_with fail
                        go_roundw
                        case rel => exact ⟨j + 1, lf + 1, R', F9, G9, by omega, by simp, by simp, S9.out, HL2.out, HDL.out⟩
                        case measure => simp only [intOf]; omega
                    · have d1 : decide (fl < xt) = false := decide_eq_false hfl
                      rw [d1] at HR4
                      have HL2 : Hid (lf + (drp R' fl).length = dl) := by
                        have h1 : (drp R' fl).length + (if fl < xt then 1 else 0) = (drp A' fl).length := HLF2.out
                        rw [if_neg hfl] at h1
                        have h2 : lf + (drp A' fl).length = dl := HLF.out
                        have h3 : lf + (drp R' fl).length = dl := by omega
                        exact h3
                      go_cut [133] (fun s133 wx => s133 = .bool false ∧ ∃ F9, ApS w wx sb ob (drp R' fl) R' F9 G9 L L ∧ wx.heap[g]? = some (opO ⟨1, oa, ob2, k, ⟨xf, xt, xi⟩⟩))
                      case first =>
                        go_region_held3 (fun W' => g < W'.heap.size ∧ W'.cell? ⟨g, 3, none⟩ = some (.string k) ∧ W'.cell? ⟨g, 4, none⟩ = some (.int .i64 xf) ∧ W'.cell? ⟨g, 5, none⟩ = some (.int .i64 xt) ∧ W'.cell? ⟨g, 6, none⟩ = some (.int .i64 xi))
                          (exact HBX.out _ (by first | exact GU.out | exact GV.out))
                          ((go_at_call 14; refine Calls.mono (HR4.out _ (by (repeat (first | exact Same.refl _ _ | apply Same.drew | apply Same.drewN)); done)) ?_; rintro r w9 ⟨rfl, F9, s9, g9⟩; have SU : Hid (ApS w w9 sb ob (drp R' fl) R' F9 G9 L L) := s9; have GU : Hid (w9.heap[g]? = some (opO ⟨1, oa, ob2, k, ⟨xf, xt, xi⟩⟩)) := g9; clear s9 g9))
                        all_goals
                          go_wp2_with fail
                          go_meet
                          exact ⟨rfl, F9, ApS.on SU.out (by (repeat (first | exact Same.refl _ _ | apply Same.drew | apply Same.drewN)); done), GU.out⟩
                      case rest =>
                        obtain ⟨rfl, F9, s9, g9⟩ := hcut
                        rename World => X
                        have S9 : Hid (ApS w X sb ob (drp R' fl) R' F9 G9 L L) := s9
                        clear q3 q4 q5 q6 hgw
                        obtain ⟨hgw, q3, q4, q5, q6⟩ := HBX.out X g9
                        clear s9 g9 HR4 HBX
                        go_wp2_with fail
                        go_roundw
                        case rel => exact ⟨j + 1, lf, R', F9, G9, by omega, by simp, rfl, S9.out, HL2.out, HDL.out⟩
                        case measure => simp only [intOf]; omega
          · have d0 : (kd != 1) = true := by simpa using hkd
            have d1 : ¬ (kd = 1) := hkd
            have HPS2 : Hid _ := HPS.out hkd
            clear hkd
            go_wp2_with fail
            go_roundw
            case rel => exact ⟨j + 1, lf, A', F', G', by omega, by simp, rfl, HSA.out, HLF.out, HPS2.out⟩
            case measure => simp only [intOf]; omega
        · have c1 : decide ((j : Int) < (L : Int)) = false := by simp only [decide_eq_false_iff_not]; omega
          have hnil : A' = [] := HIN.out.end_' (by rw [← show L = l.length from EL.out]; omega)
          subst hnil
          have hlf2 : lf = dl := by have h9 : lf + (drp [] fl).length = dl := HLF.out; simpa [drp] using h9
          subst hlf2
          have HC4 : Hid _ := count14 HSS.out.a
          have HC5 : Hid _ := count14 HSS.out.b
          rw [show drp [] fl = [] from rfl] at HC4
          simp only [List.length_nil] at HC4 HC5
          have g6 : ((lf : Int) == (lf : Int)) = true := by simp
          clear hlf9 HLF HIN ED
          go_wp2_with fail
          refine Calls.mono HC4.out ?_
          rintro r w8 ⟨rfl, e8⟩
          subst e8
          clear HC4
          go_wp2_with fail
          refine Calls.mono HC5.out ?_
          rintro r w9 ⟨rfl, e9⟩
          subst e9
          clear HC5
          go_wp2_with fail
          go_ret
          exact ⟨rfl, HSS.out.kept⟩
end Go.Proofs.Ytaiaahcblohknaa
