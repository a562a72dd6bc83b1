/- What is proved: what a top of three answers of one violation; no condition. -/
import Derived.Test.YticahglmlfflbaaVTn
namespace Go.Proofs.Yticahglmlfflbaa
open Go.RowKit

theorem put_yes (w : World) (kd tm tx op wit : Int) (key : ByteArray) (wa : Bool) (ex : ByteArray) (gg : Bool) (ob : ByteArray) (fr tt : Int) (W : World) (tb : Nat) (hx : okV ⟨kd, tm, tx, op, wit, key, wa, ex, gg, ob, fr, tt⟩ = true) (h : TpN w W tb 3 []) : Calls Try.prog 11 #[.pointer (some ⟨tb, 0, none⟩), .agg #[.int .i64 kd, .int .i64 tm, .int .i64 tx, .int .i64 op, .int .i64 wit, .string key, .bool wa, .string ex, .bool gg, .string ob, .int .i64 fr, .int .i64 tt]] W fun e w' => e = .returned (.int .i64 0) ∧ ∃ x, TpN w w' tb 3 [x] := (h.put (x := ⟨kd, tm, tx, op, wit, key, wa, ex, gg, ob, fr, tt⟩) hx (by decide)).mono fun e w' h => ⟨h.1, _, h.2⟩
theorem put_not (w : World) (kd tm tx op wit : Int) (key : ByteArray) (wa : Bool) (ex : ByteArray) (gg : Bool) (ob : ByteArray) (fr tt : Int) (W : World) (tb : Nat) (hx : okV ⟨kd, tm, tx, op, wit, key, wa, ex, gg, ob, fr, tt⟩ = false) (h : TpN w W tb 3 []) : Calls Try.prog 11 #[.pointer (some ⟨tb, 0, none⟩), .agg #[.int .i64 kd, .int .i64 tm, .int .i64 tx, .int .i64 op, .int .i64 wit, .string key, .bool wa, .string ex, .bool gg, .string ob, .int .i64 fr, .int .i64 tt]] W fun e w' => e = .returned (.int .i64 181) ∧ TpN w w' tb 3 [] := h.no (x := ⟨kd, tm, tx, op, wit, key, wa, ex, gg, ob, fr, tt⟩) hx
theorem val_b (b : Bool) (kd tm tx op wit : Int) (key : ByteArray) (wa : Bool) (ex : ByteArray) (gg : Bool) (ob : ByteArray) (fr tt : Int) (W : World) (hx : okV ⟨kd, tm, tx, op, wit, key, wa, ex, gg, ob, fr, tt⟩ = b) : Calls Try.prog 20 #[.agg #[.int .i64 kd, .int .i64 tm, .int .i64 tx, .int .i64 op, .int .i64 wit, .string key, .bool wa, .string ex, .bool gg, .string ob, .int .i64 fr, .int .i64 tt]] W fun e w' => e = .returned (.bool b) ∧ ∃ o, w' = W.alloc o := by
  rw [← hx]
  exact (valid18 ⟨kd, tm, tx, op, wit, key, wa, ex, gg, ob, fr, tt⟩ W).mono fun e w' h => ⟨h.1, _, h.2⟩
theorem box_of {w wb : World} {o : Obj} (h : w.alloc o = wb) : wb.heap[w.heap.size]? = some o := by subst h; exact heap_new _ _
theorem kept_by {w0 w wb : World} {o : Obj} (h : w.alloc o = wb) (k : Kept w0 w) : Kept w0 wb := by subst h; exact k.alloc _
theorem srt_one (x : Vl) : (srt ltV [x]).take 3 = [x] := rfl
theorem list_one {w W : World} {tb : Nat} {x : Vl} (h : TpN w W tb 3 [x]) : Calls Try.prog 14 #[.pointer (some ⟨tb, 0, none⟩)] W fun e w' => ∃ a cap, e = .returned (.slice a 1 cap) ∧ TpN w w' tb 3 [x] := (h.list).mono fun e w' ⟨u, h1, o, t, _⟩ => by
  obtain ⟨a, cap, e2, -⟩ := o.shape
  exact ⟨a, cap, by rw [h1, e2]; rfl, t⟩
theorem list_none {w W : World} {tb : Nat} (h : TpN w W tb 3 []) : Calls Try.prog 14 #[.pointer (some ⟨tb, 0, none⟩)] W fun e w' => ∃ a cap, e = .returned (.slice a 0 cap) ∧ TpN w w' tb 3 [] := (h.list).mono fun e w' ⟨u, h1, o, t, _⟩ => by
  obtain ⟨a, cap, e2, -⟩ := o.shape
  exact ⟨a, cap, by rw [h1, e2]; rfl, t⟩
end Go.Proofs.Yticahglmlfflbaa
