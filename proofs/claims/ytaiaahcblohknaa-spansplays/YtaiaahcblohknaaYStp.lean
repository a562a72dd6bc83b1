/- What is proved: two lists of spans that are alike, the one with keys, are found alike; a step of Insert, Remove, Drop, or none, answers alike on the program's forest and the document's, and leaves both alike; both lie in memory. -/
import Derived.Test.YtaiaahcblohknaaYDrw
import Derived.Test.YtaiaahcblohknaaYRfD
import Derived.Test.YtaiaahcblohknaaYRfE
import Derived.Test.YtaiaahcblohknaaYSps
import Derived.Test.YtaiaahcblohknaaYTwo
import Derived.Test.YtaiaahcblohknaaYOpO
import Derived.Test.YtaiaahcblohknaaYHigh
namespace Go.Proofs.Ytaiaahcblohknaa
open Go.RowKit

set_option maxRecDepth 100000 in
set_option maxHeartbeats 1600000 in
theorem same14 {w : World} (k : ByteArray) (m : List Ks) (hk : ∀ e ∈ m, e.key.toList = k.toList) {a b : Option Addr} {ca cb : Nat} (ha : SpsAt w a (m.map (·.s))) (hb : KsAt w b m) (hl : m.length ≤ 5000000000000) :
    Calls Try.prog 8 #[.string k, .slice a m.length ca, .slice b m.length cb] w fun r w' => r = .returned (.bool true) ∧ Kept w w' := by
  have HA : Hid _ := ha
  have HB : Hid _ := hb
  have HK : Hid _ := hk
  obtain ⟨n, en⟩ : ∃ n, n = m.length := ⟨_, rfl⟩
  rw [← en] at hl ⊢
  have EN : Hid (n = m.length) := en
  have nn : ((n : Int) != (n : Int)) = false := by simp
  clear ha hb hk en
  go_enter Try.func8, Try.ntmps8
  go_wp2_with fail
  go_loopw [16] (fun iv wr => ∃ j : Nat, j ≤ n ∧ iv = .int .i64 j ∧ Kept w wr) (fun iv _ => n - (intOf iv).toNat)
  case atStart => exact ⟨0, Nat.zero_le _, rfl, Same.refl _ _⟩
  case round =>
    obtain ⟨j, hj, rfl, kk⟩ := hrel
    have KK : Hid (Kept w wr) := kk
    clear kk
    by_cases hlt : j < n
    · have c1 : decide ((j : Int) < (n : Int)) = true := by simp only [decide_eq_true_eq]; omega
      have hlt2 : (j : Int) < (n : Int) := by omega
      have hlt3 : (0 : Int) ≤ (j : Int) := by omega
      obtain ⟨e, he⟩ : ∃ e, m[j]? = some e := ⟨_, List.getElem?_eq_getElem (by rw [← show n = m.length from EN.out]; exact hlt)⟩
      have hke := HK.out e (List.mem_of_getElem? he)
      obtain ⟨b1, o1, rfl, hb1, m0, m1, m2⟩ := (SpsAt.on HA.out KK.out) j e.s (by rw [List.getElem?_map, he]; rfl)
      have G1 : Hid _ := heap_new wr (spO e.s)
      have K1 : Hid (Kept wr (wr.alloc (spO e.s))) := (Same.refl _ wr).alloc _
      obtain ⟨b2, o2, rfl, hb2, n0, n1, n2, n3⟩ := (KsAt.on HB.out (Same.trans' KK.out K1.out)) j e he
      have nq : ∀ w, (binOp .neq 58 (.agg #[.string k, .int .i64 e.s.f, .int .i64 e.s.t, .int .i64 e.s.i]) (.agg #[.string e.key, .int .i64 e.s.f, .int .i64 e.s.t, .int .i64 e.s.i])).run Try.prog w = .ok (.bool false) w := fun w => by
        have h9 := neq_ks ⟨k, e.s⟩ e w
        rw [show isE e.key e.s ⟨k, e.s⟩ = true by simp [isE, hke]] at h9
        exact h9
      have HW : Hid (∀ W', Calls Try.prog 19 #[.string k, .agg #[.int .i64 e.s.f, .int .i64 e.s.t, .int .i64 e.s.i]] W' fun r w' => r = .returned (.agg #[.string k, .int .i64 e.s.f, .int .i64 e.s.t, .int .i64 e.s.i]) ∧ Kept W' w') := fun W' => with14 k e.s W'
      clear he hke
      go_upto_region 6 with fail
      generalize wr.alloc (spO e.s) = Y at *
      generalize wr.heap.size = g at *
      obtain ⟨u0, u1, u2⟩ := sp_cells G1.out
      have hg := lt_of_heap G1.out
      have HBX : Hid (∀ W', Kept Y W' → (W'.cell? ⟨g, 0, none⟩ = some (.int .i64 e.s.f) ∧ W'.cell? ⟨g, 1, none⟩ = some (.int .i64 e.s.t) ∧ W'.cell? ⟨g, 2, none⟩ = some (.int .i64 e.s.i)) ∧ (W'.cell? ⟨b2, o2 + j * 4, none⟩ = some (.string e.key) ∧ W'.cell? ⟨b2, o2 + j * 4 + 1, none⟩ = some (.int .i64 e.s.f) ∧ W'.cell? ⟨b2, o2 + j * 4 + 2, none⟩ = some (.int .i64 e.s.t) ∧ W'.cell? ⟨b2, o2 + j * 4 + 3, none⟩ = some (.int .i64 e.s.i))) := fun W' k' =>
        ⟨⟨(k'.cell (p := ⟨g, 0, none⟩) hg (fun e => e)).trans u0, (k'.cell (p := ⟨g, 1, none⟩) hg (fun e => e)).trans u1, (k'.cell (p := ⟨g, 2, none⟩) hg (fun e => e)).trans u2⟩, ⟨(k'.cell (p := ⟨b2, _, none⟩) hb2 (fun e => e)).trans n0, (k'.cell (p := ⟨b2, _, none⟩) hb2 (fun e => e)).trans n1, (k'.cell (p := ⟨b2, _, none⟩) hb2 (fun e => e)).trans n2, (k'.cell (p := ⟨b2, _, none⟩) hb2 (fun e => e)).trans n3⟩⟩
      clear m0 m1 m2 hb1
      go_cut [28] (fun s28 wx => s28 = .bool false ∧ Kept Y wx)
      case first =>
        go_region_held3 (fun W' => (W'.cell? ⟨g, 0, none⟩ = some (.int .i64 e.s.f) ∧ W'.cell? ⟨g, 1, none⟩ = some (.int .i64 e.s.t) ∧ W'.cell? ⟨g, 2, none⟩ = some (.int .i64 e.s.i)) ∧ (W'.cell? ⟨b2, o2 + j * 4, none⟩ = some (.string e.key) ∧ W'.cell? ⟨b2, o2 + j * 4 + 1, none⟩ = some (.int .i64 e.s.f) ∧ W'.cell? ⟨b2, o2 + j * 4 + 2, none⟩ = some (.int .i64 e.s.t) ∧ W'.cell? ⟨b2, o2 + j * 4 + 3, none⟩ = some (.int .i64 e.s.i)))
          (exact HBX.out _ (by (repeat (first | exact Same.refl _ _ | apply Same.drew | apply Same.drewN | refine Same.trans' ?_ kq)); done))
          ((go_at_call 19; refine Calls.mono (HW.out _) ?_; rintro r w2 ⟨rfl, kq⟩))
        all_goals
          go_wp2_with fail
          go_meet
          exact ⟨rfl, (by (repeat (first | exact Same.refl _ _ | apply Same.drew | apply Same.drewN | refine Same.trans' ?_ kq)); done)⟩
      case rest =>
        obtain ⟨rfl, k9⟩ := hcut
        rename World => Z9
        have K9 : Hid (Kept Y Z9) := k9
        clear k9 u0 u1 u2 n0 n1 n2 n3 HBX HW nq
        go_wp2_with fail
        go_roundw
        case rel => exact ⟨j + 1, by omega, by simp, Same.trans' KK.out (Same.trans' K1.out K9.out)⟩
        case measure => simp only [intOf]; omega
    · have c1 : decide ((j : Int) < (n : Int)) = false := by simp only [decide_eq_false_iff_not]; omega
      go_wp2_with fail
      go_ret
      exact ⟨rfl, KK.out⟩
abbrev opO (o : OpY) : Obj := .cells #[.int .i64 o.kind, .int .i64 o.a, .int .i64 o.b, .string o.key, .int .i64 o.s.f, .int .i64 o.s.t, .int .i64 o.s.i] 33 (0, 0)
abbrev opA (o : OpY) : Array Value := #[.int .i64 o.kind, .int .i64 o.a, .int .i64 o.b, .string o.key, .int .i64 o.s.f, .int .i64 o.s.t, .int .i64 o.s.i]
theorem op_obj {w : World} {g : Nat} {o : OpY} (h : w.heap[g]? = some (opO o)) : w.cell? ⟨g, 0, none⟩ = some (.int .i64 o.kind) ∧ w.cell? ⟨g, 1, none⟩ = some (.int .i64 o.a) ∧ w.cell? ⟨g, 2, none⟩ = some (.int .i64 o.b) ∧ w.cell? ⟨g, 3, none⟩ = some (.string o.key) ∧ w.cell? ⟨g, 4, none⟩ = some (.int .i64 o.s.f) ∧ w.cell? ⟨g, 5, none⟩ = some (.int .i64 o.s.t) ∧ w.cell? ⟨g, 6, none⟩ = some (.int .i64 o.s.i) :=
  ⟨(cell_of h 0).trans rfl, (cell_of h 1).trans rfl, (cell_of h 2).trans rfl, (cell_of h 3).trans rfl, (cell_of h 4).trans rfl, (cell_of h 5).trans rfl, (cell_of h 6).trans rfl⟩
/-- The program's forest and the document's, apart of one another. -/
structure Duo (w wr : World) (sb rb : Nat) (A B : List Ks) (F G : Nat → Prop) (bd : Nat) : Prop where
  a : Fo F wr sb A bd
  b : RFo G wr rb B
  dis : ∀ x, F x → ¬ G x
  la : ∀ x, F x → w.heap.size ≤ x
  lb : ∀ x, G x → w.heap.size ≤ x
  kept : Kept w wr
theorem Duo.on {w wr w' : World} {sb rb : Nat} {A B : List Ks} {F G : Nat → Prop} {bd : Nat} (h : Duo w wr sb rb A B F G bd) (k : Kept wr w') : Duo w w' sb rb A B F G bd := ⟨h.a.on k, h.b.on k, h.dis, h.la, h.lb, Same.trans' h.kept k⟩
theorem Duo.up {w wr : World} {sb rb : Nat} {A B : List Ks} {F G : Nat → Prop} {bd bd' : Nat} (h : Duo w wr sb rb A B F G bd) (hb : bd ≤ bd') : Duo w wr sb rb A B F G bd' := ⟨h.a.up hb, h.b, h.dis, h.la, h.lb, h.kept⟩
theorem Duo.step {w wr w' : World} {sb rb : Nat} {A A' B : List Ks} {F G : Nat → Prop} {bd bd' : Nat} (h : Duo w wr sb rb A B F G bd) (hi : StpP F wr sb A' bd' w') : (∃ F', Duo w w' sb rb A' B F' G bd') ∧ Same F wr w' := by
  obtain ⟨F', q1, q2, q3⟩ := hi
  refine ⟨⟨F', q1, h.b.off q3 (fun x hx hf => h.dis x hf hx), fun x hx hg => ?_, fun x hx => ?_, h.lb, h.kept.trans q3 (fun i hi hf => ?_)⟩, q3⟩
  · rcases q2 x hx with h1 | h1
    · exact h.dis x h1 hg
    · have := h.b.lt x hg; omega
  · rcases q2 x hx with h1 | h1
    · exact h.la x h1
    · exact Nat.le_trans h.kept.size h1
  · have := h.la i hf; omega
theorem Duo.rstep {w wr w' : World} {sb rb : Nat} {A B B' : List Ks} {F G : Nat → Prop} {bd : Nat} (h : Duo w wr sb rb A B F G bd) (hi : RStp G wr rb B' w') : ∃ G', Duo w w' sb rb A B' F G' bd := by
  obtain ⟨G', q1, q2, q3⟩ := hi
  refine ⟨G', h.a.off q3 (fun x hx hf => h.dis x hx hf), q1, fun x hf hx => ?_, h.la, fun x hx => ?_, h.kept.trans q3 (fun i hi hf => ?_)⟩
  · rcases q2 x hx with h1 | h1
    · exact h.dis x hf h1
    · have := h.a.lt x hf; omega
  · rcases q2 x hx with h1 | h1
    · exact h.lb x h1
    · exact Nat.le_trans h.kept.size h1
  · have := h.lb i hf; omega
theorem Fo.len {F : Nat → Prop} {w : World} {fb : Nat} {A : List Ks} {bd : Nat} (h : Fo F w fb A bd) : A.length ≤ bd := by
  obtain ⟨nb, cap, fr, mb, e, N, D, R, FL, h1, h2, h3, h4, h5, h6⟩ := h
  exact h6
/-- What a step leaves. -/
noncomputable def stp (A : List Ks) (o : OpY) : List Ks := if o.kind = 1 then insI A o.key o.s else if o.kind = 2 then rdel A o.key o.s else if o.kind = 5 then drp A o.a else A
abbrev Stp (w wr : World) (sb rb : Nat) (A : List Ks) (bd : Nat) (o : OpY) : Prop :=
  Calls Try.prog 7 #[.pointer (some ⟨sb, 0, none⟩), .pointer (some ⟨rb, 0, none⟩), .agg (opA o)] wr fun e w' => e = .returned (.bool true) ∧ ∃ F' G', Duo w w' sb rb (stp A o) (stp A o) F' G' (bd + 1)
set_option maxRecDepth 100000 in
set_option maxHeartbeats 1600000 in
theorem step_ins {w wr : World} {sb rb : Nat} {A : List Ks} {F G : Nat → Prop} {bd : Nat} (h : Duo w wr sb rb A A F G bd) (a b : Int) (k : ByteArray) (hk : k.size ≤ maxLen) (x : Sp) (hn : bd + 3 ≤ 3500000000000) : Stp w wr sb rb A bd ⟨1, a, b, k, x⟩ := by
  unfold Stp
  rw [show stp A ⟨1, a, b, k, x⟩ = insI A k x from rfl]
  have D0 : Hid _ := h.on ((Same.refl _ wr).alloc (opO ⟨1, a, b, k, x⟩))
  have G0 : Hid _ := heap_new wr (opO ⟨1, a, b, k, x⟩)
  have HGF : Hid (∀ b, F b → b ≠ wr.heap.size) := fun b hb e => by have := h.a.lt b hb; omega
  have HLN : Hid (A.length ≤ bd) := h.a.len
  clear h
  unfold opA
  simp only
  go_enter Try.func7, Try.ntmps7
  go_upto_region 1 with fail
  generalize wr.alloc (opO ⟨1, a, b, k, x⟩) = Y at *
  generalize wr.heap.size = g at *
  obtain ⟨c0, c1, c2, c3, c4, c5, c6⟩ := op_obj G0.out
  have hg := lt_of_heap G0.out
  simp only at c0 c1 c2 c3 c4 c5 c6
  have HI : Hid _ := insert14 (Duo.a D0.out) k hk x (by omega)
  unfold spV at HI
  go_wp2_with fail
  refine Calls.mono HI.out ?_
  rintro e w1 ⟨rfl, hi⟩
  obtain ⟨⟨F1, d1⟩, s1⟩ := Duo.step D0.out hi
  have D1 : Hid _ := d1
  have G1 : Hid _ := (s1.block g hg (fun hf => HGF.out g hf rfl)).trans G0.out
  clear d1 s1 hi c0 c1 c2 c3 c4 c5 c6 hg HI
  obtain ⟨c0, c1, c2, c3, c4, c5, c6⟩ := op_obj G1.out
  have hg := lt_of_heap G1.out
  simp only at c0 c1 c2 c3 c4 c5 c6
  have HW : Hid _ := with14 k x w1
  unfold spV at HW
  go_wp2_with fail
  refine Calls.mono HW.out ?_
  rintro e w2 ⟨rfl, k2⟩
  have D2 : Hid _ := Duo.on D1.out k2
  have HR : Hid _ := rinsert14 (Duo.b D2.out) k hk x (by have h9 : A.length ≤ bd := HLN.out; omega)
  clear k2 HW c0 c1 c2 c3 c4 c5 c6 hg
  unfold ksV at HR ⊢
  simp only at HR ⊢
  go_wp2_with fail
  refine Calls.mono HR.out ?_
  rintro e w3 ⟨rfl, hi⟩
  obtain ⟨G3, d3⟩ := Duo.rstep D2.out hi
  have D3 : Hid _ := d3
  clear d3 hi HR
  generalize codeI A k x = cd at *
  have ce : (cd == cd) = true := by simp
  go_wp2_with fail
  go_ret
  exact ⟨rfl, F1, G3, D3.out⟩
theorem rdel_lt {A : List Ks} {k : ByteArray} {x : Sp} (hs : Srt (kf A k)) : (rdel A k x).length < A.length ↔ x ∈ kf A k := by
  constructor
  · intro h
    refine Classical.byContradiction fun h2 => ?_
    rw [rdel_none h2] at h
    omega
  · intro h
    have := rdel_length hs h
    omega
set_option maxRecDepth 100000 in
set_option maxHeartbeats 1600000 in
theorem step_rem {w wr : World} {sb rb : Nat} {A : List Ks} {F G : Nat → Prop} {bd : Nat} (h : Duo w wr sb rb A A F G bd) (a b : Int) (k : ByteArray) (hk : k.size ≤ maxLen) (x : Sp) (hn : bd + 3 ≤ 3500000000000) : Stp w wr sb rb A bd ⟨2, a, b, k, x⟩ := by
  unfold Stp
  rw [show stp A ⟨2, a, b, k, x⟩ = rdel A k x from rfl]
  have D0 : Hid _ := h.on ((Same.refl _ wr).alloc (opO ⟨2, a, b, k, x⟩))
  have G0 : Hid _ := heap_new wr (opO ⟨2, a, b, k, x⟩)
  have HGF : Hid (∀ b, F b → b ≠ wr.heap.size) := fun b hb e => by have := h.a.lt b hb; omega
  have HLN : Hid (A.length ≤ bd) := h.a.len
  have HRL : Hid ((rdel A k x).length < A.length ↔ x ∈ kf A k) := rdel_lt (h.a.wks.2 k)
  clear h
  unfold opA
  simp only
  go_enter Try.func7, Try.ntmps7
  go_upto_region 1 with fail
  generalize wr.alloc (opO ⟨2, a, b, k, x⟩) = Y at *
  generalize wr.heap.size = g at *
  obtain ⟨c0, c1, c2, c3, c4, c5, c6⟩ := op_obj G0.out
  have hg := lt_of_heap G0.out
  simp only at c0 c1 c2 c3 c4 c5 c6
  have HI : Hid _ := remove14 (Duo.a D0.out) k hk x (by omega)
  unfold spV at HI
  go_wp2_with fail
  refine Calls.mono HI.out ?_
  rintro e w1 ⟨⟨bb, rfl, hbb⟩, hi⟩
  have HBB : Hid (decide ((rdel A k x).length < A.length) = bb) := by
    cases bb
    · exact decide_eq_false fun h9 => by have := hbb.2 (HRL.out.1 h9); cases this
    · exact decide_eq_true (HRL.out.2 (hbb.1 rfl))
  obtain ⟨⟨F1, d1⟩, s1⟩ := Duo.step D0.out hi
  have D1 : Hid _ := d1
  have G1 : Hid _ := (s1.block g hg (fun hf => HGF.out g hf rfl)).trans G0.out
  clear d1 s1 hi c0 c1 c2 c3 c4 c5 c6 hg HI hbb
  obtain ⟨c0, c1, c2, c3, c4, c5, c6⟩ := op_obj G1.out
  have hg := lt_of_heap G1.out
  simp only at c0 c1 c2 c3 c4 c5 c6
  have HW : Hid _ := with14 k x w1
  unfold spV at HW
  go_wp2_with fail
  refine Calls.mono HW.out ?_
  rintro e w2 ⟨rfl, k2⟩
  have D2 : Hid _ := Duo.on D1.out k2
  have HR : Hid _ := rremove14 (Duo.b D2.out) k x (by have h9 : A.length ≤ bd := HLN.out; omega)
  rw [show decide ((rdel A k x).length < A.length) = bb from HBB.out] at HR
  clear k2 HW c0 c1 c2 c3 c4 c5 c6 hg
  unfold ksV at HR ⊢
  simp only at HR ⊢
  go_wp2_with fail
  refine Calls.mono HR.out ?_
  rintro e w3 ⟨rfl, hi⟩
  obtain ⟨G3, d3⟩ := Duo.rstep D2.out hi
  have D3 : Hid _ := Duo.up d3 (Nat.le_succ bd)
  clear d3 hi HR
  have ce : (bb == bb) = true := by simp
  go_wp2_with fail
  all_goals
    go_ret
    exact ⟨by simp, F1, G3, D3.out⟩
set_option maxRecDepth 100000 in
set_option maxHeartbeats 1600000 in
theorem step_drp {w wr : World} {sb rb : Nat} {A : List Ks} {F G : Nat → Prop} {bd : Nat} (h : Duo w wr sb rb A A F G bd) (a b : Int) (k : ByteArray) (x : Sp) (hn : bd + 3 ≤ 3500000000000) : Stp w wr sb rb A bd ⟨5, a, b, k, x⟩ := by
  unfold Stp
  rw [show stp A ⟨5, a, b, k, x⟩ = drp A a from rfl]
  have D0 : Hid _ := h.on ((Same.refl _ wr).alloc (opO ⟨5, a, b, k, x⟩))
  have G0 : Hid _ := heap_new wr (opO ⟨5, a, b, k, x⟩)
  have HGF : Hid (∀ b, F b → b ≠ wr.heap.size) := fun b hb e => by have := h.a.lt b hb; omega
  have HLN : Hid (A.length ≤ bd) := h.a.len
  clear h
  unfold opA
  simp only
  go_enter Try.func7, Try.ntmps7
  go_upto_region 1 with fail
  generalize wr.alloc (opO ⟨5, a, b, k, x⟩) = Y at *
  generalize wr.heap.size = g at *
  obtain ⟨c0, c1, c2, c3, c4, c5, c6⟩ := op_obj G0.out
  have hg := lt_of_heap G0.out
  simp only at c0 c1 c2 c3 c4 c5 c6
  have HI : Hid _ := drop14 (Duo.a D0.out) a (by omega)
  go_wp2_with fail
  refine Calls.mono HI.out ?_
  rintro e w1 ⟨rfl, hi⟩
  obtain ⟨⟨F1, d1⟩, s1⟩ := Duo.step D0.out hi
  have D1 : Hid _ := d1
  have G1 : Hid _ := (s1.block g hg (fun hf => HGF.out g hf rfl)).trans G0.out
  clear d1 s1 hi c0 c1 c2 c3 c4 c5 c6 hg HI
  obtain ⟨c0, c1, c2, c3, c4, c5, c6⟩ := op_obj G1.out
  have hg := lt_of_heap G1.out
  simp only at c0 c1 c2 c3 c4 c5 c6
  have HR : Hid _ := rdrop14 (Duo.b D1.out) a (by have h9 : A.length ≤ bd := HLN.out; omega)
  go_wp2_with fail
  refine Calls.mono HR.out ?_
  rintro e w3 ⟨rfl, hi⟩
  obtain ⟨G3, d3⟩ := Duo.rstep D1.out hi
  have D3 : Hid _ := Duo.up d3 (Nat.le_succ bd)
  clear d3 hi HR
  generalize A.length - (drp A a).length = cd at *
  have ce : ((cd : Int) == (cd : Int)) = true := by simp
  go_wp2_with fail
  go_ret
  exact ⟨rfl, F1, G3, D3.out⟩
set_option maxRecDepth 100000 in
set_option maxHeartbeats 1600000 in
theorem step_none {w wr : World} {sb rb : Nat} {A : List Ks} {F G : Nat → Prop} {bd : Nat} (h : Duo w wr sb rb A A F G bd) (o : OpY) (h1 : o.kind ≠ 1) (h2 : o.kind ≠ 2) (h3 : o.kind ≠ 3) (h4 : o.kind ≠ 4) (h5 : o.kind ≠ 5) (h6 : o.kind ≠ 6) : Stp w wr sb rb A bd o := by
  unfold Stp
  rw [show stp A o = A by unfold stp; rw [if_neg h1, if_neg h2, if_neg h5]]
  unfold opA
  have D0 : Hid _ := (h.on ((Same.refl _ wr).alloc (opO o))).up (Nat.le_succ bd)
  have d1 : (o.kind == 1) = false := by simpa using h1
  have d2 : (o.kind == 2) = false := by simpa using h2
  have d3 : (o.kind == 3) = false := by simpa using h3
  have d4 : (o.kind == 4) = false := by simpa using h4
  have d5 : (o.kind == 5) = false := by simpa using h5
  have d6 : (o.kind == 6) = false := by simpa using h6
  clear h h1 h2 h3 h4 h5 h6
  go_enter Try.func7, Try.ntmps7
  go_wp2_with fail
  go_ret
  exact ⟨rfl, F, G, D0.out⟩
end Go.Proofs.Ytaiaahcblohknaa
