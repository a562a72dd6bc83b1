/- What is proved: 'told' answers true where a stop tells what the document's own stop holds; nothing turns but the tree's lock, which is free again. -/
import Derived.Test.YtkkkndbfokjikabRefChild
namespace Go.Proofs.Ytkkkndbfokjikab
open Go.Conc Go.RowKit

/-- The tree lies in w', which has come from W by calls on it. -/
def TS (T : Tr) (W w' : World) : Prop := Holds 0 w' T ∧ Same (Foot T) W w'
theorem TS.drew {T : Tr} {W w' : World} (h : TS T W w') : TS T W w'.drew := ⟨⟨h.1.tree, h.1.row, h.1.stop, h.1.chan, h.1.par, h.1.bi, h.1.ci⟩, h.2.drew⟩

set_option maxRecDepth 100000 in
set_option maxHeartbeats 1600000 in
theorem told_true {T : Tr} (w : World) (h : Holds 0 w T) (i : Nat) (hi : i < T.n) (p : Int) :
    Calls Try.prog 8 #[.pointer (some ⟨T.blk i, 0, none⟩), .agg #[.int .i64 p, .int .i64 (T.left i), .int .i64 (T.cause i)]] w fun e w' => e = .returned (.bool true) ∧ Holds 0 w' T ∧ Same (Foot T) w w' := by
  have hB : ∀ k, Foot T k → k < w.heap.size := fun k hk => h.lt hk
  -- the world with the boxed struct
  have s0 : Same (Foot T) w (w.alloc (.cells #[.int .i64 p, .int .i64 (T.left i), .int .i64 (T.cause i)] 40)) := (Same.refl _ w).alloc _
  have hb : (w.alloc (.cells #[.int .i64 p, .int .i64 (T.left i), .int .i64 (T.cause i)] 40)).heap[w.heap.size]? = some (.cells #[.int .i64 p, .int .i64 (T.left i), .int .i64 (T.cause i)] 40 (0, 0)) := heap_alloc_new w _
  have ts : TS T (w.alloc (.cells #[.int .i64 p, .int .i64 (T.left i), .int .i64 (T.cause i)] 40)) (w.alloc (.cells #[.int .i64 p, .int .i64 (T.left i), .int .i64 (T.cause i)] 40)) := ⟨h.kept ((Same.refl (fun _ => False) w).alloc _) fun _ _ h => h, Same.refl _ _⟩
  generalize hW : w.alloc (.cells #[.int .i64 p, .int .i64 (T.left i), .int .i64 (T.cause i)] 40) = W at s0 hb ts
  have HW : Hid _ := hW
  have hBW : w.heap.size < W.heap.size := lt_of_heap hb
  have hnb : ¬ Foot T w.heap.size := fun hf => by have := hB _ hf; omega
  -- a call on the tree keeps the box
  have hk : ∀ w' w2, TS T W w' → Holds 0 w2 T → Same (Foot T) w' w2 → TS T W w2 ∧ w2.cell? ⟨w.heap.size, 1, none⟩ = some (.int .i64 (T.left i)) ∧ w2.cell? ⟨w.heap.size, 2, none⟩ = some (.int .i64 (T.cause i)) := by
    intro w' w2 t h2 s2
    have s3 := t.2.trans' s2
    have e := (s3.block _ hBW hnb).trans hb
    exact ⟨⟨h2, s3⟩, (cell_of e 1).trans rfl, (cell_of e 2).trans rfl⟩
  have t0 : TS T W W.drew := ts.drew
  have d1 : W.cell? ⟨w.heap.size, 1, none⟩ = some (.int .i64 (T.left i)) := (cell_of hb 1).trans rfl
  have d2 : W.cell? ⟨w.heap.size, 2, none⟩ = some (.int .i64 (T.cause i)) := (cell_of hb 2).trans rfl
  have c1 : Hid (∀ w', TS T W w' → Calls Try.prog 11 #[.pointer (some ⟨T.blk i, 0, none⟩)] w' fun e w2 => e = .returned (.int .i64 (T.cause i)) ∧ TS T W w2 ∧ w2.cell? ⟨w.heap.size, 1, none⟩ = some (.int .i64 (T.left i)) ∧ w2.cell? ⟨w.heap.size, 2, none⟩ = some (.int .i64 (T.cause i))) :=
    fun w' t => (cause_any w' t.1 i hi).mono fun e w2 ⟨he, h2, s2⟩ => ⟨he, hk w' w2 t h2 s2⟩
  have c2 : Hid (∀ w', TS T W w' → Calls Try.prog 20 #[.pointer (some ⟨T.blk i, 0, none⟩)] w' fun e w2 => e = .returned (.int .i64 (T.left i)) ∧ TS T W w2 ∧ w2.cell? ⟨w.heap.size, 1, none⟩ = some (.int .i64 (T.left i)) ∧ w2.cell? ⟨w.heap.size, 2, none⟩ = some (.int .i64 (T.cause i))) :=
    fun w' t => (left_any w' t.1 i hi).mono fun e w2 ⟨he, h2, s2⟩ => ⟨he, hk w' w2 t h2 s2⟩
  have c0 : Hid (∀ v, (!(T.cause i == 0)) = v → ∀ w', TS T W w' → Calls Try.prog 9 #[.pointer (some ⟨T.blk i, 0, none⟩)] w' fun e w2 => e = .returned (.bool v) ∧ TS T W w2 ∧ w2.cell? ⟨w.heap.size, 1, none⟩ = some (.int .i64 (T.left i)) ∧ w2.cell? ⟨w.heap.size, 2, none⟩ = some (.int .i64 (T.cause i))) :=
    fun v hv w' t => (stopped_val w' t.1 i hi _ rfl v hv).mono fun e w2 ⟨he, h2, s2⟩ => ⟨he, hk w' w2 t h2 s2⟩
  have S0 : Hid _ := s0
  clear hk hb h hB hnb ts s0
  have hvs : (T.cause i != 0) = true ∨ (T.cause i != 0) = false := by cases (T.cause i != 0) <;> simp
  have C0 : Hid (∀ v, (T.cause i != 0) = v → _) := c0.out
  clear c0 hW
  have e1 : (T.cause i == T.cause i) = true := by simp
  have e2 : (T.left i == T.left i) = true := by simp
  generalize T.cause i = c at *
  generalize T.left i = l at *
  rcases hvs with hv | hv
  all_goals
    have K0 : Hid _ := C0.out _ hv
    go_enter Try.func8, Try.ntmps8
    go_wp2_with fail
    rw [HW.out]
    go_region_held3 (fun w' => TS T W w' ∧ w'.cell? ⟨w.heap.size, 1, none⟩ = some (.int .i64 l) ∧ w'.cell? ⟨w.heap.size, 2, none⟩ = some (.int .i64 c))
      (first | (refine ⟨?_, ?_, ?_⟩ <;> assumption) | (refine ⟨by assumption, ?_, ?_⟩ <;> go_keep))
      (first
        | (go_at_call 9; refine Calls.mono (K0.out _ (by assumption)) ?_; rintro e w2 ⟨rfl, k1, k2, k3⟩)
        | (go_at_call 11; refine Calls.mono (c1.out _ (by assumption)) ?_; rintro e w2 ⟨rfl, k1, k2, k3⟩)
        | (go_at_call 20; refine Calls.mono (c2.out _ (by assumption)) ?_; rintro e w2 ⟨rfl, k1, k2, k3⟩))
    go_wp2_with fail
    go_ret
    exact ⟨rfl, k1.1, S0.out.trans' k1.2⟩
end Go.Proofs.Ytkkkndbfokjikab
