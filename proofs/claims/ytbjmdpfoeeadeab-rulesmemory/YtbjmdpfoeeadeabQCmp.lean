/- What is proved: how two rows stand, and rows in their boxes; no condition. -/
import Derived.Test.YtbjmdpfoeeadeabQVal
import Derived.Deep.RegionHeld3
namespace Go.Proofs.Ytbjmdpfoeeadeab.Rw
open Go.RowKit

/-- How two numbers stand to one another. -/
def cmp3 (a b : Int) : Int := if a < b then -1 else if b < a then 1 else 0
def or3 (a b c : Int) : Int := if a ≠ 0 then a else if b ≠ 0 then b else c
/-- How two rows stand to one another in an order. -/
def comp (order : Int) (a b : RwM) : Int :=
  if order = 1 then or3 (cmp3 a.time b.time) (cmp3 a.kind b.kind) (cmp3 a.index b.index) else if order = 2 then or3 (cmp3 a.time b.time) (cmp3 a.seq b.seq) (cmp3 a.index b.index) else 0
theorem cmp3_lt {a b : Int} (h : a < b) : cmp3 a b = -1 := if_pos h
theorem cmp3_gt {a b : Int} (h : b < a) : cmp3 a b = 1 := by unfold cmp3; rw [if_neg (by omega), if_pos h]
theorem cmp3_eq (a : Int) : cmp3 a a = 0 := by unfold cmp3; rw [if_neg (by omega), if_neg (by omega)]
theorem cmp3_cases (a b : Int) : (a < b ∧ cmp3 a b = -1 ∧ cmp3 b a = 1) ∨ (b < a ∧ cmp3 a b = 1 ∧ cmp3 b a = -1) ∨ (a = b ∧ cmp3 a b = 0 ∧ cmp3 b a = 0) := by
  rcases Int.lt_trichotomy a b with h | rfl | h
  · exact .inl ⟨h, cmp3_lt h, cmp3_gt h⟩
  · exact .inr (.inr ⟨rfl, cmp3_eq _, cmp3_eq _⟩)
  · exact .inr (.inl ⟨h, cmp3_gt h, cmp3_lt h⟩)
theorem or3_ne {a b c : Int} (h : a ≠ 0) : or3 a b c = a := if_pos h
theorem or3_zero (b c : Int) : or3 0 b c = if b ≠ 0 then b else c := if_neg (by decide)

/-- The first number that is not 0. -/
def orL : List Int → Int
  | [] => 0
  | x :: r => if x ≠ 0 then x else orL r
theorem orL_three (a b c : Int) : orL [a, b, c] = or3 a b c := by
  simp only [orL, or3]
  by_cases h : c = 0
  · subst h; simp
  · simp [h]
/-- A world whose cells a comparison reads. -/
structure Cm (w W : World) (h : Nat) (t t' i i' : Int) : Prop where
  kept : Kept w W
  lt : h + 1 < W.heap.size
  c1 : W.cell? ⟨h, 1, none⟩ = some (.int .i64 t)
  c2 : W.cell? ⟨h + 1, 1, none⟩ = some (.int .i64 t')
  c3 : W.cell? ⟨h, 3, none⟩ = some (.int .i64 i)
  c4 : W.cell? ⟨h + 1, 3, none⟩ = some (.int .i64 i')
theorem cm_new (w : World) (a b : RwM) : Cm w ((w.alloc (.cells #[.int .i64 a.kind, .int .i64 a.time, .int .i64 a.seq, .int .i64 a.index, .int .i64 a.frm, .int .i64 a.til, .string a.body] 40 (0, 0))).alloc (.cells #[.int .i64 b.kind, .int .i64 b.time, .int .i64 b.seq, .int .i64 b.index, .int .i64 b.frm, .int .i64 b.til, .string b.body] 40 (0, 0))) w.heap.size a.time b.time a.index b.index := by
  have q1 := (heap_old _ (.cells #[.int .i64 b.kind, .int .i64 b.time, .int .i64 b.seq, .int .i64 b.index, .int .i64 b.frm, .int .i64 b.til, .string b.body] 40 (0, 0)) (by rw [World.size_alloc]; exact Nat.lt_succ_self _)).trans (heap_new w (.cells #[.int .i64 a.kind, .int .i64 a.time, .int .i64 a.seq, .int .i64 a.index, .int .i64 a.frm, .int .i64 a.til, .string a.body] 40 (0, 0)))
  have q2 := heap_new (w.alloc (.cells #[.int .i64 a.kind, .int .i64 a.time, .int .i64 a.seq, .int .i64 a.index, .int .i64 a.frm, .int .i64 a.til, .string a.body] 40 (0, 0))) (.cells #[.int .i64 b.kind, .int .i64 b.time, .int .i64 b.seq, .int .i64 b.index, .int .i64 b.frm, .int .i64 b.til, .string b.body] 40 (0, 0))
  rw [World.size_alloc] at q2
  exact ⟨((Same.refl _ w).alloc _).alloc _, by simp only [World.size_alloc]; omega, (cell_of q1 1).trans rfl, (cell_of q2 1).trans rfl, (cell_of q1 3).trans rfl, (cell_of q2 3).trans rfl⟩
theorem Cm.cells {w W : World} {h : Nat} {t t' i i' : Int} (m : Cm w W h t t' i i') (w3 : World) (k : Kept W w3) :
    Kept W w3 ∧ w3.cell? ⟨h, 1, none⟩ = some (.int .i64 t) ∧ w3.cell? ⟨h + 1, 1, none⟩ = some (.int .i64 t') ∧ w3.cell? ⟨h, 3, none⟩ = some (.int .i64 i) ∧ w3.cell? ⟨h + 1, 3, none⟩ = some (.int .i64 i') := by
  have h0 : h < W.heap.size := by have := m.lt; omega
  exact ⟨k, (k.cell (p := ⟨h, 1, none⟩) h0 (fun e => e)).trans m.c1, (k.cell (p := ⟨h + 1, 1, none⟩) m.lt (fun e => e)).trans m.c2, (k.cell (p := ⟨h, 3, none⟩) h0 (fun e => e)).trans m.c3, (k.cell (p := ⟨h + 1, 3, none⟩) m.lt (fun e => e)).trans m.c4⟩
/-- Does a come before b? -/
def bef (order : Int) (a b : RwM) : Bool := decide (comp order a b = -1)
theorem comp_cases (order : Int) (a b : RwM) : comp order a b = -1 ∨ comp order a b = 0 ∨ comp order a b = 1 := by
  unfold comp
  rcases cmp3_cases a.time b.time with ⟨-, e1, -⟩ | ⟨-, e1, -⟩ | ⟨-, e1, -⟩ <;> rcases cmp3_cases a.kind b.kind with ⟨-, e2, -⟩ | ⟨-, e2, -⟩ | ⟨-, e2, -⟩ <;> rcases cmp3_cases a.index b.index with ⟨-, e3, -⟩ | ⟨-, e3, -⟩ | ⟨-, e3, -⟩ <;> rcases cmp3_cases a.seq b.seq with ⟨-, e4, -⟩ | ⟨-, e4, -⟩ | ⟨-, e4, -⟩ <;>
    rw [e1, e2, e3, e4] <;> by_cases h1 : order = 1 <;> by_cases h2 : order = 2 <;> simp [h1, h2, or3]
theorem comp_swap (order : Int) (a b : RwM) : comp order b a = - comp order a b := by
  unfold comp
  rcases cmp3_cases a.time b.time with ⟨-, e1, f1⟩ | ⟨-, e1, f1⟩ | ⟨-, e1, f1⟩ <;> rcases cmp3_cases a.kind b.kind with ⟨-, e2, f2⟩ | ⟨-, e2, f2⟩ | ⟨-, e2, f2⟩ <;> rcases cmp3_cases a.index b.index with ⟨-, e3, f3⟩ | ⟨-, e3, f3⟩ | ⟨-, e3, f3⟩ <;> rcases cmp3_cases a.seq b.seq with ⟨-, e4, f4⟩ | ⟨-, e4, f4⟩ | ⟨-, e4, f4⟩ <;>
    rw [e1, e2, e3, e4, f1, f2, f3, f4] <;> by_cases h1 : order = 1 <;> by_cases h2 : order = 2 <;> simp [h1, h2, or3]
theorem comp_self (order : Int) (a : RwM) : comp order a a = 0 := by
  unfold comp
  rw [cmp3_eq, cmp3_eq, cmp3_eq, cmp3_eq]
  by_cases h1 : order = 1 <;> by_cases h2 : order = 2 <;> simp [h1, h2, or3]
/-- What comes before, spelt out. -/
theorem bef_iff (order : Int) (a b : RwM) : bef order a b = true ↔ ((order = 1 ∨ order = 2) ∧ (a.time < b.time ∨ (a.time = b.time ∧ ((order = 1 ∧ a.kind < b.kind) ∨ (order = 2 ∧ a.seq < b.seq) ∨ (((order = 1 ∧ a.kind = b.kind) ∨ (order = 2 ∧ a.seq = b.seq)) ∧ a.index < b.index))))) := by
  unfold bef comp
  rw [decide_eq_true_iff]
  rcases cmp3_cases a.time b.time with ⟨g1, e1, -⟩ | ⟨g1, e1, -⟩ | ⟨g1, e1, -⟩ <;> rcases cmp3_cases a.kind b.kind with ⟨g2, e2, -⟩ | ⟨g2, e2, -⟩ | ⟨g2, e2, -⟩ <;> rcases cmp3_cases a.index b.index with ⟨g3, e3, -⟩ | ⟨g3, e3, -⟩ | ⟨g3, e3, -⟩ <;> rcases cmp3_cases a.seq b.seq with ⟨g4, e4, -⟩ | ⟨g4, e4, -⟩ | ⟨g4, e4, -⟩ <;>
    rw [e1, e2, e3, e4] <;> by_cases h1 : order = 1 <;> by_cases h2 : order = 2 <;> simp [h1, h2, or3] <;> omega
theorem row_obj {w : World} {b : Nat} {k t s i f u : Value} {y : Value} {ty : TypeId} (h : w.heap[b]? = some (.cells #[k, t, s, i, f, u, y] ty (0, 0))) :
    (w.cell? ⟨b, 0, none⟩ = some k ∧ w.cell? ⟨b, 1, none⟩ = some t ∧ w.cell? ⟨b, 2, none⟩ = some s ∧ w.cell? ⟨b, 3, none⟩ = some i ∧ w.cell? ⟨b, 4, none⟩ = some f ∧ w.cell? ⟨b, 5, none⟩ = some u ∧ w.cell? ⟨b, 6, none⟩ = some y) ∧
      w.frozen? ⟨b, 0, none⟩ = false ∧ w.frozen? ⟨b, 1, none⟩ = false ∧ w.frozen? ⟨b, 2, none⟩ = false ∧ w.frozen? ⟨b, 3, none⟩ = false ∧ w.frozen? ⟨b, 4, none⟩ = false ∧ w.frozen? ⟨b, 5, none⟩ = false ∧ w.frozen? ⟨b, 6, none⟩ = false :=
  ⟨⟨(cell_of h 0).trans rfl, (cell_of h 1).trans rfl, (cell_of h 2).trans rfl, (cell_of h 3).trans rfl, (cell_of h 4).trans rfl, (cell_of h 5).trans rfl, (cell_of h 6).trans rfl⟩, frozen_of h 0, frozen_of h 1, frozen_of h 2, frozen_of h 3, frozen_of h 4, frozen_of h 5, frozen_of h 6⟩
theorem loadVar_row {w : World} {b : Nat} {r : RwM} {ty : TypeId} (hty : ty = 40 ∨ ty = 46) (h : w.heap[b]? = some (.cells #[.int .i64 r.kind, .int .i64 r.time, .int .i64 r.seq, .int .i64 r.index, .int .i64 r.frm, .int .i64 r.til, .string r.body] ty (0, 0))) :
    (loadVar ty ⟨b, 0, none⟩).run Try.prog w = .ok (rowV r) w := by
  obtain ⟨⟨c0, c1, c2, c3, c4, c5, c6⟩, -⟩ := row_obj h
  clear h
  unfold rowV
  rcases hty with rfl | rfl
  · go_simp
  · go_simp
theorem results_c {fn : Func} {a t : Nat} {P : Program} {w : World} {tmps : Array Value} {ad : Addr} {v : Value} (h : fn.results = #[.cell a t]) (ha : tmps.getD a undef = .pointer (some ad)) (hv : (loadVar t ad).run P w = .ok v w) : (results fn tmps).run P w = .ok v w := by
  have ha' : tmps[a]?.getD undef = .pointer (some ad) := by simpa using ha
  simp [results, h, ha', asAddr, hv]
theorem results_ctt {fn : Func} {a t u s : Nat} {P : Program} {w : World} {tmps : Array Value} {ad : Addr} {v : Value} (h : fn.results = #[.cell a t, .tmp u, .tmp s]) (ha : tmps.getD a undef = .pointer (some ad)) (hv : (loadVar t ad).run P w = .ok v w) : (results fn tmps).run P w = .ok (.tuple #[v, tmps.getD u undef, tmps.getD s undef]) w := by
  have ha' : tmps[a]?.getD undef = .pointer (some ad) := by simpa using ha
  simp [results, h, ha', asAddr, hv]
set_option maxRecDepth 100000 in
theorem plain_any (r : RwM) (w : World) : Calls Try.prog 13 #[rowV r] w fun e w' => e = .returned (rowV r) ∧ Kept w w' := by
  obtain ⟨kind, time, seq, index, frm, til, body⟩ := r
  unfold rowV
  simp only
  go_enter Try.func13, Try.ntmps13
  go_wp2_with fail
  have h2 := heap_new (w.alloc (.cells #[.int .i64 kind, .int .i64 time, .int .i64 seq, .int .i64 index, .int .i64 frm, .int .i64 til, .string body] 40 (0, 0))) (.cells #[.int .i64 kind, .int .i64 time, .int .i64 seq, .int .i64 index, .int .i64 frm, .int .i64 til, .string body] 46 (0, 0))
  rw [World.size_alloc] at h2
  refine bodyPost_ret (results_c (a := 2) (t := 46) rfl rfl (loadVar_row (r := ⟨kind, time, seq, index, frm, til, body⟩) (.inr rfl) h2)) rfl ?_
  exact ⟨rfl, ((Same.refl _ w).alloc _).alloc _⟩
end Go.Proofs.Ytbjmdpfoeeadeab.Rw
