/- What is proved: the law RowsChain answers true, for every order and all rows; no condition. -/
import Derived.Test.YtnbmokchdnkloaaQCmpL
namespace Go.Proofs.Ytnbmokchdnkloaa
open Go.RowKit

def r24 : RwM := ⟨2, 0, 0, 4, 0, 0, .empty⟩
def r19 : RwM := ⟨1, 0, 0, 9, 0, 0, .empty⟩
theorem comp_2419 : comp 1 r24 r19 = 1 := by decide
theorem comp_le (order : Int) (a b : RwM) : comp order a b ≤ 0 ↔ ¬ bef order b a = true := by
  rcases bef_cases order a b with ⟨h, -, e⟩ | ⟨h, -, e⟩ | ⟨h, -, e⟩ <;> rw [h, e] <;> decide
theorem comp_trans (order : Int) (a b c : RwM) (h1 : comp order a b ≤ 0) (h2 : comp order b c ≤ 0) : comp order a c ≤ 0 := by
  rw [comp_le, bef_iff] at *
  by_cases o1 : order = 1
  · subst o1
    simp only [true_and, Int.reduceEq, false_and, or_false, false_or] at *
    omega
  · by_cases o2 : order = 2
    · subst o2
      simp only [or_true, true_and, Int.reduceEq, false_and, false_or] at *
      omega
    · simp [o1, o2]
theorem compare_f (order k t s i f u : Int) (y : ByteArray) (k' t' s' i' f' u' : Int) (y' : ByteArray) (w : World) : Calls Try.prog 19 #[.int .i64 order, .agg #[.int .i64 k, .int .i64 t, .int .i64 s, .int .i64 i, .int .i64 f, .int .i64 u, .string y], .agg #[.int .i64 k', .int .i64 t', .int .i64 s', .int .i64 i', .int .i64 f', .int .i64 u', .string y']] w fun e w' => e = .returned (.int .i64 (comp order ⟨k, t, s, i, f, u, y⟩ ⟨k', t', s', i', f', u', y'⟩)) ∧ Kept w w' := compare_any order ⟨k, t, s, i, f, u, y⟩ ⟨k', t', s', i', f', u', y'⟩ w
/-- Three rows in boxes. -/
structure Bx3 (w W : World) (h : Nat) (a b c : RwM) : Prop where
  kept : Kept w W
  one : W.heap[h]? = some (.cells #[.int .i64 a.kind, .int .i64 a.time, .int .i64 a.seq, .int .i64 a.index, .int .i64 a.frm, .int .i64 a.til, .string a.body] 23 (0, 0))
  two : W.heap[h + 1]? = some (.cells #[.int .i64 b.kind, .int .i64 b.time, .int .i64 b.seq, .int .i64 b.index, .int .i64 b.frm, .int .i64 b.til, .string b.body] 23 (0, 0))
  three : W.heap[h + 1 + 1]? = some (.cells #[.int .i64 c.kind, .int .i64 c.time, .int .i64 c.seq, .int .i64 c.index, .int .i64 c.frm, .int .i64 c.til, .string c.body] 23 (0, 0))
theorem Bx3.on {w W W' : World} {h : Nat} {a b c : RwM} (m : Bx3 w W h a b c) (k : Kept W W') : Bx3 w W' h a b c :=
  ⟨m.kept.trans' k, (k.block _ (lt_of_heap m.one) (fun e => e)).trans m.one, (k.block _ (lt_of_heap m.two) (fun e => e)).trans m.two, (k.block _ (lt_of_heap m.three) (fun e => e)).trans m.three⟩
theorem bx3_new (w : World) (a b c : RwM) : Bx3 w (((w.alloc (.cells #[.int .i64 a.kind, .int .i64 a.time, .int .i64 a.seq, .int .i64 a.index, .int .i64 a.frm, .int .i64 a.til, .string a.body] 23 (0, 0))).alloc (.cells #[.int .i64 b.kind, .int .i64 b.time, .int .i64 b.seq, .int .i64 b.index, .int .i64 b.frm, .int .i64 b.til, .string b.body] 23 (0, 0))).alloc (.cells #[.int .i64 c.kind, .int .i64 c.time, .int .i64 c.seq, .int .i64 c.index, .int .i64 c.frm, .int .i64 c.til, .string c.body] 23 (0, 0))) w.heap.size a b c := by
  have m := bx2_new w a b
  have k : Kept ((w.alloc (.cells #[.int .i64 a.kind, .int .i64 a.time, .int .i64 a.seq, .int .i64 a.index, .int .i64 a.frm, .int .i64 a.til, .string a.body] 23 (0, 0))).alloc (.cells #[.int .i64 b.kind, .int .i64 b.time, .int .i64 b.seq, .int .i64 b.index, .int .i64 b.frm, .int .i64 b.til, .string b.body] 23 (0, 0))) (((w.alloc (.cells #[.int .i64 a.kind, .int .i64 a.time, .int .i64 a.seq, .int .i64 a.index, .int .i64 a.frm, .int .i64 a.til, .string a.body] 23 (0, 0))).alloc (.cells #[.int .i64 b.kind, .int .i64 b.time, .int .i64 b.seq, .int .i64 b.index, .int .i64 b.frm, .int .i64 b.til, .string b.body] 23 (0, 0))).alloc (.cells #[.int .i64 c.kind, .int .i64 c.time, .int .i64 c.seq, .int .i64 c.index, .int .i64 c.frm, .int .i64 c.til, .string c.body] 23 (0, 0))) := (Same.refl _ _).alloc _
  have t := heap_new ((w.alloc (.cells #[.int .i64 a.kind, .int .i64 a.time, .int .i64 a.seq, .int .i64 a.index, .int .i64 a.frm, .int .i64 a.til, .string a.body] 23 (0, 0))).alloc (.cells #[.int .i64 b.kind, .int .i64 b.time, .int .i64 b.seq, .int .i64 b.index, .int .i64 b.frm, .int .i64 b.til, .string b.body] 23 (0, 0))) (.cells #[.int .i64 c.kind, .int .i64 c.time, .int .i64 c.seq, .int .i64 c.index, .int .i64 c.frm, .int .i64 c.til, .string c.body] 23 (0, 0))
  rw [World.size_alloc, World.size_alloc] at t
  exact ⟨(m.on k).kept, (m.on k).one, (m.on k).two, t⟩
theorem Bx3.cells {w W : World} {h : Nat} {a b c : RwM} (m : Bx3 w W h a b c) (W' : World) (k : Kept W W') : Kept W W' ∧ (W'.cell? ⟨h, 0, none⟩ = some (.int .i64 a.kind) ∧ W'.cell? ⟨h, 1, none⟩ = some (.int .i64 a.time) ∧ W'.cell? ⟨h, 2, none⟩ = some (.int .i64 a.seq) ∧ W'.cell? ⟨h, 3, none⟩ = some (.int .i64 a.index) ∧ W'.cell? ⟨h, 4, none⟩ = some (.int .i64 a.frm) ∧ W'.cell? ⟨h, 5, none⟩ = some (.int .i64 a.til) ∧ W'.cell? ⟨h, 6, none⟩ = some (.string a.body)) ∧ (W'.cell? ⟨h + 1, 0, none⟩ = some (.int .i64 b.kind) ∧ W'.cell? ⟨h + 1, 1, none⟩ = some (.int .i64 b.time) ∧ W'.cell? ⟨h + 1, 2, none⟩ = some (.int .i64 b.seq) ∧ W'.cell? ⟨h + 1, 3, none⟩ = some (.int .i64 b.index) ∧ W'.cell? ⟨h + 1, 4, none⟩ = some (.int .i64 b.frm) ∧ W'.cell? ⟨h + 1, 5, none⟩ = some (.int .i64 b.til) ∧ W'.cell? ⟨h + 1, 6, none⟩ = some (.string b.body)) ∧ (W'.cell? ⟨h + 1 + 1, 0, none⟩ = some (.int .i64 c.kind) ∧ W'.cell? ⟨h + 1 + 1, 1, none⟩ = some (.int .i64 c.time) ∧ W'.cell? ⟨h + 1 + 1, 2, none⟩ = some (.int .i64 c.seq) ∧ W'.cell? ⟨h + 1 + 1, 3, none⟩ = some (.int .i64 c.index) ∧ W'.cell? ⟨h + 1 + 1, 4, none⟩ = some (.int .i64 c.frm) ∧ W'.cell? ⟨h + 1 + 1, 5, none⟩ = some (.int .i64 c.til) ∧ W'.cell? ⟨h + 1 + 1, 6, none⟩ = some (.string c.body)) := by
  obtain ⟨c, -⟩ := row_obj (m.on k).one
  obtain ⟨d, -⟩ := row_obj (m.on k).two
  obtain ⟨e, -⟩ := row_obj (m.on k).three
  exact ⟨k, c, d, e⟩
set_option maxRecDepth 100000 in
set_option maxHeartbeats 400000 in
theorem rowsChain_any (order : Int) (a b c : RwM) (w : World) : Calls Try.prog 8 #[.int .i64 order, rowV a, rowV b, rowV c] w fun e w' => e = .returned (.bool true) ∧ Kept w w' := by
  have H0 : Hid (∀ W, _) := anchor9_any
  have H1 : Hid (∀ W, _) := fun W => compare_any 1 r24 r19 W
  rw [comp_2419] at H1
  rw [show rowV r24 = .agg #[.int .i64 2, .int .i64 0, .int .i64 0, .int .i64 4, .int .i64 0, .int .i64 0, .string .empty] from rfl, show rowV r19 = .agg #[.int .i64 1, .int .i64 0, .int .i64 0, .int .i64 9, .int .i64 0, .int .i64 0, .string .empty] from rfl] at H1
  have HC1 : Hid (∀ W, _) := fun W => compare_any order a b W
  have HC2 : Hid (∀ W, _) := fun W => compare_any order b c W
  have HC3 : Hid (∀ W, _) := fun W => compare_any order a c W
  have HM : Hid _ := bx3_new w a b c
  have htr := comp_trans order a b c
  have had : comp order a ⟨b.kind, b.time, b.seq, b.index, a.frm, a.til, a.body⟩ = comp order a b := rfl
  have hbd : comp order b ⟨b.kind, b.time, b.seq, b.index, a.frm, a.til, a.body⟩ = 0 := comp_self order b
  obtain ⟨x, ex⟩ : ∃ x, x = comp order a b := ⟨_, rfl⟩
  rw [← ex] at HC1 htr had
  generalize comp order b c = y at HC2 htr
  generalize comp order a c = z at HC3 htr
  have HAB : Hid _ := ex.symm
  have HAD : Hid _ := had
  have HBD : Hid _ := hbd
  clear ex had hbd
  obtain ⟨kind, time, seq, index, frm, til, body⟩ := a
  obtain ⟨kind', time', seq', index', frm', til', body'⟩ := b
  obtain ⟨kind'', time'', seq'', index'', frm'', til'', body''⟩ := c
  unfold rowV at *
  simp only at *
  go_enter Try.func8, Try.ntmps8
  go_wp2_with fail
  refine Calls.mono (H0.out _) ?_
  rintro e w1 ⟨rfl, k1⟩
  have M1 : Hid _ := HM.out.on k1
  clear k1 HM
  go_wp2_with fail
  refine Calls.mono (H1.out _) ?_
  rintro e w2 ⟨rfl, k2⟩
  have M2 : Hid _ := M1.out.on k2
  generalize w.heap.size = h at M2 ⊢
  clear k2 M1 H0 H1
  have hl1 := lt_of_heap M2.out.three
  go_upto_region 3 with fail
  go_cut [36] (fun s wx => s = .bool false ∧ Kept w2 wx)
  case first =>
    obtain ⟨-, ⟨c0, c1, c2, c3, c4, c5, c6⟩, ⟨d0, d1, d2, d3, d4, d5, d6⟩, ⟨e0, e1, e2, e3, e4, e5, e6⟩⟩ := M2.out.cells w2 (Same.refl _ _)
    go_wp2_with fail
    refine Calls.mono (HC1.out _) ?_
    rintro e w3 ⟨rfl, k3⟩
    by_cases hx : x ≤ 0
    · have dx : decide (x ≤ 0) = true := decide_eq_true hx
      obtain ⟨-, ⟨c0, c1, c2, c3, c4, c5, c6⟩, ⟨d0, d1, d2, d3, d4, d5, d6⟩, ⟨e0, e1, e2, e3, e4, e5, e6⟩⟩ := M2.out.cells w3 k3
      have K3 : Hid _ := k3
      have hl3 := Nat.lt_of_lt_of_le hl1 k3.size
      clear k3
      go_wp2_with fail
      refine Calls.mono (HC2.out _) ?_
      rintro e w4 ⟨rfl, k4⟩
      have K4 : Hid _ := K3.out.trans' k4
      clear k4
      by_cases hy : y ≤ 0
      · have dy : decide (y ≤ 0) = true := decide_eq_true hy
        have dz : decide (0 < z) = false := decide_eq_false (by have := htr hx hy; omega)
        have dz' : ¬ 0 < z := by have := htr hx hy; omega
        obtain ⟨-, ⟨c0, c1, c2, c3, c4, c5, c6⟩, ⟨d0, d1, d2, d3, d4, d5, d6⟩, ⟨e0, e1, e2, e3, e4, e5, e6⟩⟩ := M2.out.cells w4 K4.out
        have hl4 := Nat.lt_of_lt_of_le hl1 K4.out.size
        clear htr
        go_wp2_with fail
        refine Calls.mono (HC3.out _) ?_
        rintro e w5 ⟨rfl, k5⟩
        have K5 : Hid _ := K4.out.trans' k5
        clear k5
        go_wp2_with fail
        go_meet
        exact ⟨rfl, K5.out⟩
      · have dy : decide (y ≤ 0) = false := decide_eq_false hy
        clear htr
        go_wp2_with fail
        go_meet
        exact ⟨rfl, K4.out⟩
    · have dx : decide (x ≤ 0) = false := decide_eq_false hx
      have K3 : Hid _ := k3
      clear htr k3
      go_wp2_with fail
      go_meet
      exact ⟨rfl, K3.out⟩
  case rest =>
    obtain ⟨rfl, k3⟩ := hcut
    obtain ⟨-, ⟨c0, c1, c2, c3, c4, c5, c6⟩, ⟨d0, d1, d2, d3, d4, d5, d6⟩, -⟩ := M2.out.cells _ k3
    have hl3 := Nat.lt_of_lt_of_le hl1 k3.size
    have K3 : Hid _ := k3
    clear k3 htr HC1 HC2 HC3
    have n1 : h < wc.heap.size := by omega
    have n2 : h + 1 < wc.heap.size := by omega
    have n3 : ¬ h = wc.heap.size := by omega
    have n4 : ¬ wc.heap.size = h := by omega
    have n5 : ¬ h + 1 = wc.heap.size := by omega
    have n6 : ¬ wc.heap.size = h + 1 := by omega
    have HCF : Hid _ := compare_f
    go_upto_region 6 with fail
    go_cut [9] (fun s9 wx => ∃ g, s9 = .pointer (some ⟨g, 0, none⟩) ∧ Kept w2 wx ∧ wx.heap[g]? = some (.cells #[.int .i64 kind', .int .i64 time', .int .i64 seq', .int .i64 index', .int .i64 frm, .int .i64 til, .string body] 23 (0, 0)))
    case first =>
      go_region
      all_goals
        go_wp2_with fail
        go_meet
        exact ⟨_, rfl, (K3.out.alloc _).drew, heap_new _ _⟩
    case rest =>
      clear K3 n1 n2 n3 n4 n5 n6 c0 c1 c2 c3 c4 c5 c6 d0 d1 d2 d3 d4 d5 d6 hl3
      obtain ⟨g, rfl, kD, bD⟩ := hcut
      have M3 : Hid _ := M2.out.on kD
      have BD : Hid _ := bD
      clear kD bD M2
      have HBX : Hid (∀ W', Kept wc W' → Kept wc W' ∧ (W'.cell? ⟨h, 0, none⟩ = some (.int .i64 kind) ∧ W'.cell? ⟨h, 1, none⟩ = some (.int .i64 time) ∧ W'.cell? ⟨h, 2, none⟩ = some (.int .i64 seq) ∧ W'.cell? ⟨h, 3, none⟩ = some (.int .i64 index) ∧ W'.cell? ⟨h, 4, none⟩ = some (.int .i64 frm) ∧ W'.cell? ⟨h, 5, none⟩ = some (.int .i64 til) ∧ W'.cell? ⟨h, 6, none⟩ = some (.string body)) ∧ (W'.cell? ⟨h + 1, 0, none⟩ = some (.int .i64 kind') ∧ W'.cell? ⟨h + 1, 1, none⟩ = some (.int .i64 time') ∧ W'.cell? ⟨h + 1, 2, none⟩ = some (.int .i64 seq') ∧ W'.cell? ⟨h + 1, 3, none⟩ = some (.int .i64 index') ∧ W'.cell? ⟨h + 1, 4, none⟩ = some (.int .i64 frm') ∧ W'.cell? ⟨h + 1, 5, none⟩ = some (.int .i64 til') ∧ W'.cell? ⟨h + 1, 6, none⟩ = some (.string body')) ∧ (W'.cell? ⟨g, 0, none⟩ = some (.int .i64 kind') ∧ W'.cell? ⟨g, 1, none⟩ = some (.int .i64 time') ∧ W'.cell? ⟨g, 2, none⟩ = some (.int .i64 seq') ∧ W'.cell? ⟨g, 3, none⟩ = some (.int .i64 index') ∧ W'.cell? ⟨g, 4, none⟩ = some (.int .i64 frm) ∧ W'.cell? ⟨g, 5, none⟩ = some (.int .i64 til) ∧ W'.cell? ⟨g, 6, none⟩ = some (.string body))) := fun W' k => by
        obtain ⟨-, p, q, -⟩ := M3.out.cells W' k
        exact ⟨k, p, q, (row_obj ((k.block _ (lt_of_heap BD.out) (fun e => e)).trans BD.out)).1⟩
      have HCK : Hid (∀ (order k t s i f u : Int) (y : ByteArray) (k' t' s' i' f' u' : Int) (y' : ByteArray) (W : World), Kept wc W → Calls _ _ _ _ fun e w' => _ ∧ Kept wc w') := fun order k t s i f u y k' t' s' i' f' u' y' W (kw : Kept wc W) => Calls.mono (compare_f order k t s i f u y k' t' s' i' f' u' y' W) (fun e w' hh => ⟨hh.1, kw.trans' hh.2⟩)
      obtain ⟨-, ⟨c0, c1, c2, c3, c4, c5, c6⟩, ⟨d0, d1, d2, d3, d4, d5, d6⟩, ⟨g0, g1, g2, g3, g4, g5, g6⟩⟩ := HBX.out wc (Same.refl _ _)
      have hl3 := lt_of_heap M3.out.two
      have hl4 := lt_of_heap M3.out.one
      have hl5 := lt_of_heap BD.out
      have hab := HAB.out
      have had := HAD.out
      have hbd := HBD.out
      clear HCF
      go_wp2_with fail
      go_region_held3 (fun w' => Kept wc w' ∧ (w'.cell? ⟨h, 0, none⟩ = some (.int .i64 kind) ∧ w'.cell? ⟨h, 1, none⟩ = some (.int .i64 time) ∧ w'.cell? ⟨h, 2, none⟩ = some (.int .i64 seq) ∧ w'.cell? ⟨h, 3, none⟩ = some (.int .i64 index) ∧ w'.cell? ⟨h, 4, none⟩ = some (.int .i64 frm) ∧ w'.cell? ⟨h, 5, none⟩ = some (.int .i64 til) ∧ w'.cell? ⟨h, 6, none⟩ = some (.string body)) ∧ (w'.cell? ⟨h + 1, 0, none⟩ = some (.int .i64 kind') ∧ w'.cell? ⟨h + 1, 1, none⟩ = some (.int .i64 time') ∧ w'.cell? ⟨h + 1, 2, none⟩ = some (.int .i64 seq') ∧ w'.cell? ⟨h + 1, 3, none⟩ = some (.int .i64 index') ∧ w'.cell? ⟨h + 1, 4, none⟩ = some (.int .i64 frm') ∧ w'.cell? ⟨h + 1, 5, none⟩ = some (.int .i64 til') ∧ w'.cell? ⟨h + 1, 6, none⟩ = some (.string body')) ∧ (w'.cell? ⟨g, 0, none⟩ = some (.int .i64 kind') ∧ w'.cell? ⟨g, 1, none⟩ = some (.int .i64 time') ∧ w'.cell? ⟨g, 2, none⟩ = some (.int .i64 seq') ∧ w'.cell? ⟨g, 3, none⟩ = some (.int .i64 index') ∧ w'.cell? ⟨g, 4, none⟩ = some (.int .i64 frm) ∧ w'.cell? ⟨g, 5, none⟩ = some (.int .i64 til) ∧ w'.cell? ⟨g, 6, none⟩ = some (.string body)))
        (exact HBX.out _ (by (repeat (first | assumption | exact Same.refl _ _ | apply Same.alloc | apply Same.drew | apply Same.drewN)); done))
        ((go_at_call 19; refine Calls.mono (HCK.out _ _ _ _ _ _ _ _ _ _ _ _ _ _ _ _ (by (repeat (first | assumption | exact Same.refl _ _ | apply Same.alloc | apply Same.drew | apply Same.drewN)); done)) ?_; rintro r wq ⟨rfl, kx⟩))
      all_goals
        go_wp2_with fail
        go_ret
        exact ⟨rfl, M3.out.kept.trans' (by (repeat (first | assumption | exact Same.refl _ _ | apply Same.alloc | apply Same.drew | apply Same.drewN)); done)⟩
end Go.Proofs.Ytnbmokchdnkloaa
