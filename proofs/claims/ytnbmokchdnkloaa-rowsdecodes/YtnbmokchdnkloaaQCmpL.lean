/- What is proved: the laws RowsCompare and RowsChain answer true, for every order and all rows; no condition. -/
import Derived.Test.YtnbmokchdnkloaaQAnch
namespace Go.Proofs.Ytnbmokchdnkloaa
open Go.RowKit

def r4 : RwM := ⟨0, 0, 4, 0, 0, 0, .empty⟩
def r9 : RwM := ⟨0, 0, 9, 0, 0, 0, .empty⟩
theorem comp_49 : comp 2 r4 r9 = -1 := by decide
theorem bef_cases (order : Int) (a b : RwM) : (comp order a b = -1 ∧ bef order a b = true ∧ bef order b a = false) ∨ (comp order a b = 0 ∧ bef order a b = false ∧ bef order b a = false) ∨ (comp order a b = 1 ∧ bef order a b = false ∧ bef order b a = true) := by
  unfold bef
  rw [comp_swap order a b]
  rcases comp_cases order a b with h | h | h <;> rw [h] <;> decide
/-- Two rows in boxes. -/
structure Bx2 (w W : World) (h : Nat) (a b : RwM) : Prop where
  kept : Kept w W
  one : W.heap[h]? = some (.cells #[.int .i64 a.kind, .int .i64 a.time, .int .i64 a.seq, .int .i64 a.index, .int .i64 a.frm, .int .i64 a.til, .string a.body] 23 (0, 0))
  two : W.heap[h + 1]? = some (.cells #[.int .i64 b.kind, .int .i64 b.time, .int .i64 b.seq, .int .i64 b.index, .int .i64 b.frm, .int .i64 b.til, .string b.body] 23 (0, 0))
theorem Bx2.on {w W W' : World} {h : Nat} {a b : RwM} (m : Bx2 w W h a b) (k : Kept W W') : Bx2 w W' h a b :=
  ⟨m.kept.trans' k, (k.block _ (lt_of_heap m.one) (fun e => e)).trans m.one, (k.block _ (lt_of_heap m.two) (fun e => e)).trans m.two⟩
theorem bx2_new (w : World) (a b : RwM) : Bx2 w ((w.alloc (.cells #[.int .i64 a.kind, .int .i64 a.time, .int .i64 a.seq, .int .i64 a.index, .int .i64 a.frm, .int .i64 a.til, .string a.body] 23 (0, 0))).alloc (.cells #[.int .i64 b.kind, .int .i64 b.time, .int .i64 b.seq, .int .i64 b.index, .int .i64 b.frm, .int .i64 b.til, .string b.body] 23 (0, 0))) w.heap.size a b :=
  ⟨((Same.refl _ w).alloc _).alloc _, (heap_old _ _ (by rw [World.size_alloc]; exact Nat.lt_succ_self _)).trans (heap_new w _), two_new9 w _ _⟩
theorem Bx2.cells {w W : World} {h : Nat} {a b : RwM} (m : Bx2 w W h a b) (W' : World) (k : Kept W W') : Kept W W' ∧ W'.cell? ⟨h, 0, none⟩ = some (.int .i64 a.kind) ∧ W'.cell? ⟨h, 1, none⟩ = some (.int .i64 a.time) ∧ W'.cell? ⟨h, 2, none⟩ = some (.int .i64 a.seq) ∧ W'.cell? ⟨h, 3, none⟩ = some (.int .i64 a.index) ∧ W'.cell? ⟨h, 4, none⟩ = some (.int .i64 a.frm) ∧ W'.cell? ⟨h, 5, none⟩ = some (.int .i64 a.til) ∧ W'.cell? ⟨h, 6, none⟩ = some (.string a.body) ∧ W'.cell? ⟨h + 1, 0, none⟩ = some (.int .i64 b.kind) ∧ W'.cell? ⟨h + 1, 1, none⟩ = some (.int .i64 b.time) ∧ W'.cell? ⟨h + 1, 2, none⟩ = some (.int .i64 b.seq) ∧ W'.cell? ⟨h + 1, 3, none⟩ = some (.int .i64 b.index) ∧ W'.cell? ⟨h + 1, 4, none⟩ = some (.int .i64 b.frm) ∧ W'.cell? ⟨h + 1, 5, none⟩ = some (.int .i64 b.til) ∧ W'.cell? ⟨h + 1, 6, none⟩ = some (.string b.body) := by
  obtain ⟨⟨c0, c1, c2, c3, c4, c5, c6⟩, -⟩ := row_obj (m.on k).one
  obtain ⟨⟨e0, e1, e2, e3, e4, e5, e6⟩, -⟩ := row_obj (m.on k).two
  exact ⟨k, c0, c1, c2, c3, c4, c5, c6, e0, e1, e2, e3, e4, e5, e6⟩
theorem plain_f (k t s i f u : Int) (y : ByteArray) (w : World) : Calls Try.prog 11 #[.agg #[.int .i64 k, .int .i64 t, .int .i64 s, .int .i64 i, .int .i64 f, .int .i64 u, .string y]] w fun e w' => e = .returned (.agg #[.int .i64 k, .int .i64 t, .int .i64 s, .int .i64 i, .int .i64 f, .int .i64 u, .string y]) ∧ Kept w w' := plain_any ⟨k, t, s, i, f, u, y⟩ w
set_option maxRecDepth 100000 in
set_option maxHeartbeats 400000 in
theorem rowsCompare_any (order : Int) (a b : RwM) (w : World) : Calls Try.prog 7 #[.int .i64 order, rowV a, rowV b] w fun e w' => e = .returned (.bool true) ∧ Kept w w' := by
  have H0 : Hid (∀ W, _) := anchor9_any
  have H1 : Hid (∀ W, _) := fun W => compare_any 2 r4 r9 W
  rw [comp_49] at H1
  rw [show rowV r4 = .agg #[.int .i64 0, .int .i64 0, .int .i64 4, .int .i64 0, .int .i64 0, .int .i64 0, .string .empty] from rfl, show rowV r9 = .agg #[.int .i64 0, .int .i64 0, .int .i64 9, .int .i64 0, .int .i64 0, .int .i64 0, .string .empty] from rfl] at H1
  have HP : Hid (∀ k t s i f u y W, _) := plain_f
  have HB1 : Hid (∀ W, _) := fun W => before_any order a b W
  have HB2 : Hid (∀ W, _) := fun W => before_any order b a W
  have HC1 : Hid (∀ W, _) := fun W => compare_any order a b W
  have HC2 : Hid (∀ W, _) := fun W => compare_any order b a W
  have HC3 : Hid (∀ W, _) := fun W => compare_any order a a W
  have HM : Hid _ := bx2_new w a b
  rw [comp_swap order a b] at HC2
  rw [comp_self] at HC3
  have hcs := bef_cases order a b
  generalize comp order a b = x at HC1 HC2 hcs
  generalize bef order a b = p at HB1 hcs
  generalize bef order b a = q at HB2 hcs
  obtain ⟨kind, time, seq, index, frm, til, body⟩ := a
  obtain ⟨kind', time', seq', index', frm', til', body'⟩ := b
  unfold rowV at *
  simp only at *
  go_enter Try.func7, Try.ntmps7
  go_wp2_with fail
  refine Calls.mono (H0.out _) ?_
  rintro e w1 ⟨rfl, k1⟩
  have M1 : Hid _ := HM.out.on k1
  clear k1 HM
  go_wp2_with fail
  refine Calls.mono (H1.out _) ?_
  rintro e w2 ⟨rfl, k2⟩
  have M2 : Hid _ := M1.out.on k2
  generalize w.heap.size = h at M2 ⊢
  clear k2 M1
  have HBX : Hid (∀ W', Kept w2 W' → _) := fun W' (k : Kept w2 W') => M2.out.cells W' k
  obtain ⟨k22, c0, c1, c2, c3, c4, c5, c6, e0, e1, e2, e3, e4, e5, e6⟩ := M2.out.cells w2 (Same.refl _ _)
  have hl1 := lt_of_heap M2.out.two
  have HPK : Hid (∀ k t s i f u y W, Kept w2 W → Calls _ _ _ _ fun e w' => _ ∧ Kept w2 w') := fun k t s i f u y W (kw : Kept w2 W) => Calls.mono (plain_f k t s i f u y W) (fun e w' hh => ⟨hh.1, kw.trans' hh.2⟩)
  have HBK1 : Hid (∀ W, Kept w2 W → Calls _ _ _ _ fun e w' => _ ∧ Kept w2 w') := fun W (kw : Kept w2 W) => Calls.mono (HB1.out W) (fun e w' hh => ⟨hh.1, kw.trans' hh.2⟩)
  have HBK2 : Hid (∀ W, Kept w2 W → Calls _ _ _ _ fun e w' => _ ∧ Kept w2 w') := fun W (kw : Kept w2 W) => Calls.mono (HB2.out W) (fun e w' hh => ⟨hh.1, kw.trans' hh.2⟩)
  clear H0 H1 HB1 HB2
  go_upto_region 4 with fail
  go_cut [7, 21] (fun s7 s wx => s7 = .int .i64 (0) ∧ s = .bool p ∧ Kept w2 wx)
  case first =>
    go_region_held3 (fun w' => Kept w2 w' ∧ w'.cell? ⟨h, 0, none⟩ = some (.int .i64 kind) ∧ w'.cell? ⟨h, 1, none⟩ = some (.int .i64 time) ∧ w'.cell? ⟨h, 2, none⟩ = some (.int .i64 seq) ∧ w'.cell? ⟨h, 3, none⟩ = some (.int .i64 index) ∧ w'.cell? ⟨h, 4, none⟩ = some (.int .i64 frm) ∧ w'.cell? ⟨h, 5, none⟩ = some (.int .i64 til) ∧ w'.cell? ⟨h, 6, none⟩ = some (.string body) ∧ w'.cell? ⟨h + 1, 0, none⟩ = some (.int .i64 kind') ∧ w'.cell? ⟨h + 1, 1, none⟩ = some (.int .i64 time') ∧ w'.cell? ⟨h + 1, 2, none⟩ = some (.int .i64 seq') ∧ w'.cell? ⟨h + 1, 3, none⟩ = some (.int .i64 index') ∧ w'.cell? ⟨h + 1, 4, none⟩ = some (.int .i64 frm') ∧ w'.cell? ⟨h + 1, 5, none⟩ = some (.int .i64 til') ∧ w'.cell? ⟨h + 1, 6, none⟩ = some (.string body'))
      (exact HBX.out _ (by (repeat (first | assumption | exact Same.refl _ _ | apply Same.alloc | apply Same.drew | apply Same.drewN)); done))
      (first
      | (go_at_call 11; refine Calls.mono (HPK.out _ _ _ _ _ _ _ _ (by (repeat (first | assumption | exact Same.refl _ _ | apply Same.alloc | apply Same.drew | apply Same.drewN)); done)) ?_; rintro r wa ⟨rfl, kx⟩)
      | (go_at_call 20; refine Calls.mono (HBK1.out _ (by (repeat (first | assumption | exact Same.refl _ _ | apply Same.alloc | apply Same.drew | apply Same.drewN)); done)) ?_; rintro r wc ⟨rfl, kx⟩))
    all_goals
      go_wp2_with fail
      go_meet
      exact ⟨rfl, rfl, (by (repeat (first | assumption | exact Same.refl _ _ | apply Same.alloc | apply Same.drew | apply Same.drewN)); done)⟩
  case rest =>
    obtain ⟨rfl, rfl, kA⟩ := hcut
    rcases hcs with ⟨rfl, rfl, rfl⟩ | ⟨rfl, rfl, rfl⟩ | ⟨rfl, rfl, rfl⟩
    · obtain ⟨-, c0, c1, c2, c3, c4, c5, c6, e0, e1, e2, e3, e4, e5, e6⟩ := M2.out.cells _ kA
      have hl3 := Nat.lt_of_lt_of_le hl1 kA.size
      go_upto_region 6 with fail
      go_cut [7, 27] (fun s7 s wx => s7 = .int .i64 (-1) ∧ s = .bool false ∧ Kept w2 wx)
      case first =>
        go_region_held3 (fun w' => Kept w2 w' ∧ w'.cell? ⟨h, 0, none⟩ = some (.int .i64 kind) ∧ w'.cell? ⟨h, 1, none⟩ = some (.int .i64 time) ∧ w'.cell? ⟨h, 2, none⟩ = some (.int .i64 seq) ∧ w'.cell? ⟨h, 3, none⟩ = some (.int .i64 index) ∧ w'.cell? ⟨h, 4, none⟩ = some (.int .i64 frm) ∧ w'.cell? ⟨h, 5, none⟩ = some (.int .i64 til) ∧ w'.cell? ⟨h, 6, none⟩ = some (.string body) ∧ w'.cell? ⟨h + 1, 0, none⟩ = some (.int .i64 kind') ∧ w'.cell? ⟨h + 1, 1, none⟩ = some (.int .i64 time') ∧ w'.cell? ⟨h + 1, 2, none⟩ = some (.int .i64 seq') ∧ w'.cell? ⟨h + 1, 3, none⟩ = some (.int .i64 index') ∧ w'.cell? ⟨h + 1, 4, none⟩ = some (.int .i64 frm') ∧ w'.cell? ⟨h + 1, 5, none⟩ = some (.int .i64 til') ∧ w'.cell? ⟨h + 1, 6, none⟩ = some (.string body'))
          (exact HBX.out _ (by (repeat (first | assumption | exact Same.refl _ _ | apply Same.alloc | apply Same.drew | apply Same.drewN)); done))
          (first
          | (go_at_call 11; refine Calls.mono (HPK.out _ _ _ _ _ _ _ _ (by (repeat (first | assumption | exact Same.refl _ _ | apply Same.alloc | apply Same.drew | apply Same.drewN)); done)) ?_; rintro r wa ⟨rfl, kx⟩)
          | (go_at_call 20; refine Calls.mono (HBK2.out _ (by (repeat (first | assumption | exact Same.refl _ _ | apply Same.alloc | apply Same.drew | apply Same.drewN)); done)) ?_; rintro r wc ⟨rfl, kx⟩))
        all_goals
          go_wp2_with fail
          go_meet
          exact ⟨rfl, rfl, (by (repeat (first | assumption | exact Same.refl _ _ | apply Same.alloc | apply Same.drew | apply Same.drewN)); done)⟩
      case rest =>
        obtain ⟨rfl, rfl, kB⟩ := hcut
        obtain ⟨-, c0, c1, c2, c3, c4, c5, c6, e0, e1, e2, e3, e4, e5, e6⟩ := M2.out.cells _ kB
        have hl3 := Nat.lt_of_lt_of_le hl1 kB.size
        have KB : Hid _ := kB
        clear kB kA
        go_wp2_with fail
        refine Calls.mono (HC1.out _) ?_
        rintro e w5 ⟨rfl, k5⟩
        have K5 : Hid _ := KB.out.trans' k5
        obtain ⟨-, c0, c1, c2, c3, c4, c5, c6, e0, e1, e2, e3, e4, e5, e6⟩ := M2.out.cells _ K5.out
        have hl5 := Nat.lt_of_lt_of_le hl1 K5.out.size
        clear k5
        go_wp2_with fail
        refine Calls.mono (HC2.out _) ?_
        rintro e w6 ⟨rfl, k6⟩
        have K6 : Hid _ := K5.out.trans' k6
        obtain ⟨-, c0, c1, c2, c3, c4, c5, c6, e0, e1, e2, e3, e4, e5, e6⟩ := M2.out.cells _ K6.out
        have hl6 := Nat.lt_of_lt_of_le hl1 K6.out.size
        clear k6
        go_wp2_with fail
        refine Calls.mono (HC3.out _) ?_
        rintro e w7 ⟨rfl, k7⟩
        have K7 : Hid _ := K6.out.trans' k7
        clear k7
        go_wp2_with fail
        go_ret
        exact ⟨rfl, M2.out.kept.trans' K7.out⟩
    · obtain ⟨-, c0, c1, c2, c3, c4, c5, c6, e0, e1, e2, e3, e4, e5, e6⟩ := M2.out.cells _ kA
      have hl3 := Nat.lt_of_lt_of_le hl1 kA.size
      go_upto_region 6 with fail
      go_cut [7, 27] (fun s7 s wx => s7 = .int .i64 (0) ∧ s = .bool false ∧ Kept w2 wx)
      case first =>
        go_region_held3 (fun w' => Kept w2 w' ∧ w'.cell? ⟨h, 0, none⟩ = some (.int .i64 kind) ∧ w'.cell? ⟨h, 1, none⟩ = some (.int .i64 time) ∧ w'.cell? ⟨h, 2, none⟩ = some (.int .i64 seq) ∧ w'.cell? ⟨h, 3, none⟩ = some (.int .i64 index) ∧ w'.cell? ⟨h, 4, none⟩ = some (.int .i64 frm) ∧ w'.cell? ⟨h, 5, none⟩ = some (.int .i64 til) ∧ w'.cell? ⟨h, 6, none⟩ = some (.string body) ∧ w'.cell? ⟨h + 1, 0, none⟩ = some (.int .i64 kind') ∧ w'.cell? ⟨h + 1, 1, none⟩ = some (.int .i64 time') ∧ w'.cell? ⟨h + 1, 2, none⟩ = some (.int .i64 seq') ∧ w'.cell? ⟨h + 1, 3, none⟩ = some (.int .i64 index') ∧ w'.cell? ⟨h + 1, 4, none⟩ = some (.int .i64 frm') ∧ w'.cell? ⟨h + 1, 5, none⟩ = some (.int .i64 til') ∧ w'.cell? ⟨h + 1, 6, none⟩ = some (.string body'))
          (exact HBX.out _ (by (repeat (first | assumption | exact Same.refl _ _ | apply Same.alloc | apply Same.drew | apply Same.drewN)); done))
          (first
          | (go_at_call 11; refine Calls.mono (HPK.out _ _ _ _ _ _ _ _ (by (repeat (first | assumption | exact Same.refl _ _ | apply Same.alloc | apply Same.drew | apply Same.drewN)); done)) ?_; rintro r wa ⟨rfl, kx⟩)
          | (go_at_call 20; refine Calls.mono (HBK2.out _ (by (repeat (first | assumption | exact Same.refl _ _ | apply Same.alloc | apply Same.drew | apply Same.drewN)); done)) ?_; rintro r wc ⟨rfl, kx⟩))
        all_goals
          go_wp2_with fail
          go_meet
          exact ⟨rfl, rfl, (by (repeat (first | assumption | exact Same.refl _ _ | apply Same.alloc | apply Same.drew | apply Same.drewN)); done)⟩
      case rest =>
        obtain ⟨rfl, rfl, kB⟩ := hcut
        obtain ⟨-, c0, c1, c2, c3, c4, c5, c6, e0, e1, e2, e3, e4, e5, e6⟩ := M2.out.cells _ kB
        have hl3 := Nat.lt_of_lt_of_le hl1 kB.size
        have KB : Hid _ := kB
        clear kB kA
        go_wp2_with fail
        refine Calls.mono (HC1.out _) ?_
        rintro e w5 ⟨rfl, k5⟩
        have K5 : Hid _ := KB.out.trans' k5
        obtain ⟨-, c0, c1, c2, c3, c4, c5, c6, e0, e1, e2, e3, e4, e5, e6⟩ := M2.out.cells _ K5.out
        have hl5 := Nat.lt_of_lt_of_le hl1 K5.out.size
        clear k5
        go_wp2_with fail
        refine Calls.mono (HC2.out _) ?_
        rintro e w6 ⟨rfl, k6⟩
        have K6 : Hid _ := K5.out.trans' k6
        obtain ⟨-, c0, c1, c2, c3, c4, c5, c6, e0, e1, e2, e3, e4, e5, e6⟩ := M2.out.cells _ K6.out
        have hl6 := Nat.lt_of_lt_of_le hl1 K6.out.size
        clear k6
        go_wp2_with fail
        refine Calls.mono (HC3.out _) ?_
        rintro e w7 ⟨rfl, k7⟩
        have K7 : Hid _ := K6.out.trans' k7
        clear k7
        go_wp2_with fail
        go_ret
        exact ⟨rfl, M2.out.kept.trans' K7.out⟩
    · obtain ⟨-, c0, c1, c2, c3, c4, c5, c6, e0, e1, e2, e3, e4, e5, e6⟩ := M2.out.cells _ kA
      have hl3 := Nat.lt_of_lt_of_le hl1 kA.size
      go_upto_region 6 with fail
      go_cut [7, 27] (fun s7 s wx => s7 = .int .i64 (0) ∧ s = .bool true ∧ Kept w2 wx)
      case first =>
        go_region_held3 (fun w' => Kept w2 w' ∧ w'.cell? ⟨h, 0, none⟩ = some (.int .i64 kind) ∧ w'.cell? ⟨h, 1, none⟩ = some (.int .i64 time) ∧ w'.cell? ⟨h, 2, none⟩ = some (.int .i64 seq) ∧ w'.cell? ⟨h, 3, none⟩ = some (.int .i64 index) ∧ w'.cell? ⟨h, 4, none⟩ = some (.int .i64 frm) ∧ w'.cell? ⟨h, 5, none⟩ = some (.int .i64 til) ∧ w'.cell? ⟨h, 6, none⟩ = some (.string body) ∧ w'.cell? ⟨h + 1, 0, none⟩ = some (.int .i64 kind') ∧ w'.cell? ⟨h + 1, 1, none⟩ = some (.int .i64 time') ∧ w'.cell? ⟨h + 1, 2, none⟩ = some (.int .i64 seq') ∧ w'.cell? ⟨h + 1, 3, none⟩ = some (.int .i64 index') ∧ w'.cell? ⟨h + 1, 4, none⟩ = some (.int .i64 frm') ∧ w'.cell? ⟨h + 1, 5, none⟩ = some (.int .i64 til') ∧ w'.cell? ⟨h + 1, 6, none⟩ = some (.string body'))
          (exact HBX.out _ (by (repeat (first | assumption | exact Same.refl _ _ | apply Same.alloc | apply Same.drew | apply Same.drewN)); done))
          (first
          | (go_at_call 11; refine Calls.mono (HPK.out _ _ _ _ _ _ _ _ (by (repeat (first | assumption | exact Same.refl _ _ | apply Same.alloc | apply Same.drew | apply Same.drewN)); done)) ?_; rintro r wa ⟨rfl, kx⟩)
          | (go_at_call 20; refine Calls.mono (HBK2.out _ (by (repeat (first | assumption | exact Same.refl _ _ | apply Same.alloc | apply Same.drew | apply Same.drewN)); done)) ?_; rintro r wc ⟨rfl, kx⟩))
        all_goals
          go_wp2_with fail
          go_meet
          exact ⟨rfl, rfl, (by (repeat (first | assumption | exact Same.refl _ _ | apply Same.alloc | apply Same.drew | apply Same.drewN)); done)⟩
      case rest =>
        obtain ⟨rfl, rfl, kB⟩ := hcut
        obtain ⟨-, c0, c1, c2, c3, c4, c5, c6, e0, e1, e2, e3, e4, e5, e6⟩ := M2.out.cells _ kB
        have hl3 := Nat.lt_of_lt_of_le hl1 kB.size
        have KB : Hid _ := kB
        clear kB kA
        go_wp2_with fail
        refine Calls.mono (HC1.out _) ?_
        rintro e w5 ⟨rfl, k5⟩
        have K5 : Hid _ := KB.out.trans' k5
        obtain ⟨-, c0, c1, c2, c3, c4, c5, c6, e0, e1, e2, e3, e4, e5, e6⟩ := M2.out.cells _ K5.out
        have hl5 := Nat.lt_of_lt_of_le hl1 K5.out.size
        clear k5
        go_wp2_with fail
        refine Calls.mono (HC2.out _) ?_
        rintro e w6 ⟨rfl, k6⟩
        have K6 : Hid _ := K5.out.trans' k6
        obtain ⟨-, c0, c1, c2, c3, c4, c5, c6, e0, e1, e2, e3, e4, e5, e6⟩ := M2.out.cells _ K6.out
        have hl6 := Nat.lt_of_lt_of_le hl1 K6.out.size
        clear k6
        go_wp2_with fail
        refine Calls.mono (HC3.out _) ?_
        rintro e w7 ⟨rfl, k7⟩
        have K7 : Hid _ := K6.out.trans' k7
        clear k7
        go_wp2_with fail
        go_ret
        exact ⟨rfl, M2.out.kept.trans' K7.out⟩
end Go.Proofs.Ytnbmokchdnkloaa
