/- What is proved: a step of Overlap, First, Count and Height answers alike on the program's forest and the document's, and leaves both as they are; both lie in memory. -/
import Derived.Test.YtaiaahcblohknaaYStp
namespace Go.Proofs.Ytaiaahcblohknaa
open Go.RowKit

/-- Overlap of the program's. -/
theorem ovl_p {w Y : World} {sb rb : Nat} {A : List Ks} {F G : Nat → Prop} {bd : Nat} (h : Duo w Y sb rb A A F G bd) (k : ByteArray) (hk : k.size ≤ maxLen) (a b : Int) (hn : bd + 3 ≤ 3500000000000) : ∀ W', Kept Y W' → Calls Try.prog 9 #[.pointer (some ⟨sb, 0, none⟩), .string k, .int .i64 a, .int .i64 b] W' fun e w' => ∃ p cap, e = .returned (.slice p (A.filter (ovk k a b)).length cap) ∧ SpsAt w' p ((A.filter (ovk k a b)).map (·.s)) ∧ Kept W' w' := fun W' k' => by
  refine Calls.mono (overlap14 (Duo.a (h.on k')) k hk a b (by omega)) ?_
  rintro e w' ⟨v', rfl, o', kk⟩
  obtain ⟨p, cap, rfl, hv, -⟩ := OwnSp.at o'
  exact ⟨p, cap, by rw [← ovk_kf, List.length_map], by rw [ovk_kf]; exact hv, kk⟩
/-- Overlap of the document's. -/
theorem ovl_r {w Y : World} {sb rb : Nat} {A : List Ks} {F G : Nat → Prop} {bd : Nat} (h : Duo w Y sb rb A A F G bd) (k : ByteArray) (a b : Int) (hn : bd + 3 ≤ 3500000000000) : ∀ W', Kept Y W' → Calls Try.prog 10 #[.pointer (some ⟨rb, 0, none⟩), .string k, .int .i64 a, .int .i64 b] W' fun e w' => ∃ p cap, e = .returned (.slice p (A.filter (ovk k a b)).length cap) ∧ KsAt w' p (A.filter (ovk k a b)) ∧ Kept W' w' := fun W' k' => by
  refine Calls.mono (roverlap14 (Duo.b (h.on k')) k a b (by have := h.a.len; omega)) ?_
  rintro e w' ⟨v', rfl, o', kk⟩
  obtain ⟨p, cap, rfl, hv, -⟩ := OwnK.at o'
  exact ⟨p, cap, rfl, hv, kk⟩
theorem ovl_s {A : List Ks} (k : ByteArray) (a b : Int) (hn : A.length ≤ 3500000000000) : ∀ (W' : World) (p q : Option Addr) (cp cq : Nat), SpsAt W' p ((A.filter (ovk k a b)).map (·.s)) → KsAt W' q (A.filter (ovk k a b)) → Calls Try.prog 8 #[.string k, .slice p (A.filter (ovk k a b)).length cp, .slice q (A.filter (ovk k a b)).length cq] W' fun r w' => r = .returned (.bool true) ∧ Kept W' w' := fun W' p q cp cq h1 h2 =>
  same14 k _ (fun e he => beq_iff_eq.1 (ovk_true (List.mem_filter.1 he).2).1) h1 h2 (Nat.le_trans (List.length_filter_le _ _) (by omega))
set_option maxRecDepth 100000 in
set_option maxHeartbeats 1600000 in
theorem ovl_alike {w wr : World} {sb rb : Nat} {A : List Ks} {F G : Nat → Prop} {bd : Nat} (h : Duo w wr sb rb A A F G bd) (a b : Int) (k : ByteArray) (hk : k.size ≤ maxLen) (x : Sp) (hn : bd + 3 ≤ 3500000000000) :
    Calls Try.prog 7 #[.pointer (some ⟨sb, 0, none⟩), .pointer (some ⟨rb, 0, none⟩), .agg (opA ⟨3, a, b, k, x⟩)] wr fun e w' => e = .returned (.bool true) ∧ Kept wr w' := by
  have K0 : Hid (Kept wr (wr.alloc (opO ⟨3, a, b, k, x⟩))) := (Same.refl _ wr).alloc _
  have D0 : Hid _ := h.on K0.out
  have G0 : Hid _ := heap_new wr (opO ⟨3, a, b, k, x⟩)
  have HC1 : Hid _ := ovl_p D0.out k hk a b hn
  have HC2 : Hid _ := ovl_r D0.out k a b hn
  have HC3 : Hid _ := ovl_s (A := A) k a b (by have := h.a.len; omega)
  clear h D0
  generalize A.filter (ovk k a b) = E at *
  generalize E.map (·.s) = l at *
  generalize E.length = L at *
  unfold opA
  simp only
  go_enter Try.func7, Try.ntmps7
  go_upto_region 1 with fail
  generalize wr.alloc (opO ⟨3, a, b, k, x⟩) = Y at *
  generalize wr.heap.size = g at *
  obtain ⟨c0, c1, c2, c3, -, -, -⟩ := op_obj G0.out
  have hg := lt_of_heap G0.out
  simp only at c0 c1 c2 c3
  have HBX : Hid (∀ W', Kept Y W' → W'.cell? ⟨g, 1, none⟩ = some (.int .i64 a) ∧ W'.cell? ⟨g, 2, none⟩ = some (.int .i64 b) ∧ W'.cell? ⟨g, 3, none⟩ = some (.string k)) := fun W' k' => ⟨(k'.cell (p := ⟨g, 1, none⟩) hg (fun e => e)).trans c1, (k'.cell (p := ⟨g, 2, none⟩) hg (fun e => e)).trans c2, (k'.cell (p := ⟨g, 3, none⟩) hg (fun e => e)).trans c3⟩
  go_upto_region 9 with fail
  go_region_held3 (fun W' => W'.cell? ⟨g, 1, none⟩ = some (.int .i64 a) ∧ W'.cell? ⟨g, 2, none⟩ = some (.int .i64 b) ∧ W'.cell? ⟨g, 3, none⟩ = some (.string k))
    (exact HBX.out _ (by (repeat (first | exact Same.refl _ _ | exact K6.out | exact K5.out | exact K4.out | apply Same.drew | apply Same.drewN)); done))
    (first
    | (go_at_call 8; have _t := E5; refine Calls.mono (HC3.out _ a4 a5 p4 p5 (SpsAt.on V5.out (by (repeat (first | exact Same.refl _ _ | apply Same.drew | apply Same.drewN)); done)) (KsAt.on E5.out (by (repeat (first | exact Same.refl _ _ | apply Same.drew | apply Same.drewN)); done))) ?_; rintro e w6 ⟨rfl, k6⟩; have K6 : Hid (Kept Y w6) := (by refine Same.trans' ?_ k6; (repeat (first | exact Same.refl _ _ | exact K5.out | apply Same.drew | apply Same.drewN)); done); clear k6)
    | (go_at_call 10; have _t := V4; refine Calls.mono (HC2.out _ (by (repeat (first | exact Same.refl _ _ | exact K4.out | apply Same.drew | apply Same.drewN)); done)) ?_; rintro e w5 ⟨a5, p5, rfl, o5, k5⟩; have E5 : Hid (KsAt w5 a5 E) := o5; have V5 : Hid (SpsAt w5 a4 l) := SpsAt.on V4.out (by refine Same.trans' ?_ k5; (repeat (first | exact Same.refl _ _ | apply Same.drew | apply Same.drewN)); done); have K5 : Hid (Kept Y w5) := (by refine Same.trans' ?_ k5; (repeat (first | exact Same.refl _ _ | exact K4.out | apply Same.drew | apply Same.drewN)); done); clear o5 k5)
    | (go_at_call 9; refine Calls.mono (HC1.out _ (by (repeat (first | exact Same.refl _ _ | apply Same.drew | apply Same.drewN)); done)) ?_; rintro e w4 ⟨a4, p4, rfl, o4, k4⟩; have V4 : Hid (SpsAt w4 a4 l) := o4; have K4 : Hid (Kept Y w4) := (by refine Same.trans' ?_ k4; (repeat (first | exact Same.refl _ _ | apply Same.drew | apply Same.drewN)); done); clear o4 k4))
  all_goals
    go_wp2_with fail
    go_ret
    exact ⟨rfl, Same.trans' K0.out (by (repeat (first | exact K6.out | exact Same.refl _ _ | apply Same.drew | apply Same.drewN)); done)⟩
theorem step_ovl {w wr : World} {sb rb : Nat} {A : List Ks} {F G : Nat → Prop} {bd : Nat} (h : Duo w wr sb rb A A F G bd) (a b : Int) (k : ByteArray) (hk : k.size ≤ maxLen) (x : Sp) (hn : bd + 3 ≤ 3500000000000) : Stp w wr sb rb A bd ⟨3, a, b, k, x⟩ := by
  refine (ovl_alike h a b k hk x hn).mono ?_
  rintro e w' ⟨rfl, k'⟩
  exact ⟨rfl, F, G, (h.on k').up (Nat.le_succ bd)⟩
set_option maxRecDepth 100000 in
set_option maxHeartbeats 1600000 in
theorem cnt_alike {w wr : World} {sb rb : Nat} {A : List Ks} {F G : Nat → Prop} {bd : Nat} (h : Duo w wr sb rb A A F G bd) (a b : Int) (k : ByteArray) (hk : k.size ≤ maxLen) (x : Sp) (hn : bd + 3 ≤ 3500000000000) :
    Calls Try.prog 7 #[.pointer (some ⟨sb, 0, none⟩), .pointer (some ⟨rb, 0, none⟩), .agg (opA ⟨6, a, b, k, x⟩)] wr fun e w' => e = .returned (.bool true) ∧ Kept wr w' := by
  have K0 : Hid (Kept wr (wr.alloc (opO ⟨6, a, b, k, x⟩))) := (Same.refl _ wr).alloc _
  have D0 : Hid _ := h.on K0.out
  have G0 : Hid _ := heap_new wr (opO ⟨6, a, b, k, x⟩)
  have hlen := h.a.len
  have hkl := kf_length A k
  have HC1 : Hid (∀ W', Kept (wr.alloc (opO ⟨6, a, b, k, x⟩)) W' → Calls Try.prog 11 #[.pointer (some ⟨sb, 0, none⟩)] W' fun r w' => r = .returned (.int .i64 A.length) ∧ Kept W' w') := fun W' k' => (count14 (Duo.a (D0.out.on k'))).mono fun r w' h9 => ⟨h9.1, by rw [h9.2]; exact Same.refl _ _⟩
  have HC2 : Hid (∀ W', Kept (wr.alloc (opO ⟨6, a, b, k, x⟩)) W' → Calls Try.prog 24 #[.pointer (some ⟨rb, 0, none⟩), .string k] W' fun r w' => r = .returned (.int .i64 ((kf A k).length : Nat)) ∧ Kept W' w') := fun W' k' => rof14 (Duo.b (D0.out.on k')) k (by omega)
  have HC3 : Hid (∀ W', Kept (wr.alloc (opO ⟨6, a, b, k, x⟩)) W' → Calls Try.prog 16 #[.pointer (some ⟨sb, 0, none⟩), .string k] W' fun r w' => ∃ t : Nat, r = .returned (.int .i64 t) ∧ (High (kf A k).length t ∧ t ≤ (kf A k).length) ∧ Kept W' w') := fun W' k' => (height14 (Duo.a (D0.out.on k')) k hk).mono fun r w' ⟨t, h1, h2, h3, h4⟩ => ⟨t, h1, ⟨h2, h3⟩, h4⟩
  have HC4 : Hid (∀ (t : Nat), High (kf A k).length t ∧ t ≤ (kf A k).length → ∀ W', Calls Try.prog 23 #[.int .i64 ((kf A k).length : Nat), .int .i64 t] W' fun r w' => r = .returned (.bool true) ∧ Kept W' w') := fun t ht W' => (high14 _ t ht.1 ht.2 (by omega) W').mono fun r w' h9 => ⟨h9.1, by rw [h9.2]; exact Same.refl _ _⟩
  obtain ⟨va, hob, how, -⟩ := RFo.ex (Duo.b D0.out)
  obtain ⟨ra, rcap, rfl, -, -⟩ := OwnK.at how
  have y0 : (wr.alloc (opO ⟨6, a, b, k, x⟩)).cell? ⟨rb, 0, none⟩ = some (.slice ra A.length rcap) := (cell_of hob 0).trans rfl
  have hrl := lt_of_heap hob
  clear h D0 hob how hkl
  generalize (kf A k).length = q at *
  obtain ⟨n, en⟩ : ∃ n, n = A.length := ⟨_, rfl⟩
  rw [← en] at HC1 y0 hlen
  clear en
  unfold opA
  simp only
  go_enter Try.func7, Try.ntmps7
  go_upto_region 1 with fail
  generalize wr.alloc (opO ⟨6, a, b, k, x⟩) = Y at *
  generalize wr.heap.size = g at *
  obtain ⟨c0, -, -, c3, -, -, -⟩ := op_obj G0.out
  have hg := lt_of_heap G0.out
  simp only at c0 c3
  have nn : ((n : Int) == (n : Int)) = true := by simp
  have HBX : Hid (∀ W', Kept Y W' → (W'.cell? ⟨rb, 0, none⟩ = some (.slice ra n rcap) ∧ rb < W'.heap.size) ∧ W'.cell? ⟨g, 3, none⟩ = some (.string k)) := fun W' k' => ⟨⟨(k'.cell (p := ⟨rb, 0, none⟩) hrl (fun e => e)).trans y0, Nat.lt_of_lt_of_le hrl k'.size⟩, (k'.cell (p := ⟨g, 3, none⟩) hg (fun e => e)).trans c3⟩
  go_upto_region 20 with fail
  go_region_held3 (fun W' => (W'.cell? ⟨rb, 0, none⟩ = some (.slice ra n rcap) ∧ rb < W'.heap.size) ∧ W'.cell? ⟨g, 3, none⟩ = some (.string k))
    (exact HBX.out _ (by (repeat (first | exact Same.refl _ _ | exact K7.out | exact K6.out | exact K5.out | exact K4.out | apply Same.drew | apply Same.drewN)); done))
    (first
    | (go_at_call 23; have _t := T6; refine Calls.mono (HC4.out t6 T6.out _) ?_; rintro e w7 ⟨rfl, k7⟩; have K7 : Hid (Kept Y w7) := (by refine Same.trans' ?_ k7; (repeat (first | exact Same.refl _ _ | exact K6.out | exact K5.out | exact K4.out | apply Same.drew | apply Same.drewN)); done); clear k7)
    | (go_at_call 16; have _t := K5; refine Calls.mono (HC3.out _ (by (repeat (first | exact Same.refl _ _ | exact K5.out | exact K4.out | apply Same.drew | apply Same.drewN)); done)) ?_; rintro e w6 ⟨t6, rfl, h6, k6⟩; have T6 : Hid (High q t6 ∧ t6 ≤ q) := h6; have K6 : Hid (Kept Y w6) := (by refine Same.trans' ?_ k6; (repeat (first | exact Same.refl _ _ | exact K5.out | exact K4.out | apply Same.drew | apply Same.drewN)); done); clear k6 h6)
    | (go_at_call 24; have _t := K4; refine Calls.mono (HC2.out _ (by (repeat (first | exact Same.refl _ _ | exact K4.out | apply Same.drew | apply Same.drewN)); done)) ?_; rintro e w5 ⟨rfl, k5⟩; have K5 : Hid (Kept Y w5) := (by refine Same.trans' ?_ k5; (repeat (first | exact Same.refl _ _ | exact K4.out | apply Same.drew | apply Same.drewN)); done); clear k5)
    | (go_at_call 11; refine Calls.mono (HC1.out _ (by (repeat (first | exact Same.refl _ _ | apply Same.drew | apply Same.drewN)); done)) ?_; rintro e w4 ⟨rfl, k4⟩; have K4 : Hid (Kept Y w4) := (by refine Same.trans' ?_ k4; (repeat (first | exact Same.refl _ _ | apply Same.drew | apply Same.drewN)); done); clear k4))
  all_goals
    go_wp2_with fail
    go_ret
    exact ⟨rfl, Same.trans' K0.out (by (repeat (first | exact K7.out | exact Same.refl _ _ | apply Same.drew | apply Same.drewN)); done)⟩
theorem step_cnt {w wr : World} {sb rb : Nat} {A : List Ks} {F G : Nat → Prop} {bd : Nat} (h : Duo w wr sb rb A A F G bd) (a b : Int) (k : ByteArray) (hk : k.size ≤ maxLen) (x : Sp) (hn : bd + 3 ≤ 3500000000000) : Stp w wr sb rb A bd ⟨6, a, b, k, x⟩ := by
  refine (cnt_alike h a b k hk x hn).mono ?_
  rintro e w' ⟨rfl, k'⟩
  exact ⟨rfl, F, G, (h.on k').up (Nat.le_succ bd)⟩
end Go.Proofs.Ytaiaahcblohknaa
