/- What is proved: the once's Do, at its first call and at a later one, and the stop's 'end': the first end lays its cause and closes the channel, a later one leaves all that was there as it was; the locks are free. -/
import Derived.Test.YtkkkndbfokjikabOnce
import Derived.Laws.NewBlocks
namespace Go.Proofs.Ytkkkndbfokjikab
open Go.Conc Go.RowKit Go.MuLone

/-- The world behind the first end of stop b with cause c: before the draw is taken off. -/
def endW (w : World) (b ch : Nat) (c : Int) : World :=
  (((shut ((w.setCell ⟨b, 6, none⟩ (.int .i32 1)).setCell ⟨b, 3, none⟩ (.int .i64 c)) ch).drew).setCell ⟨b, 5, none⟩ (.int .u32 1)).setCell ⟨b, 6, none⟩ (.int .i32 0)

set_option maxRecDepth 100000 in
set_option maxHeartbeats 800000 in
theorem slow_first (b ch : Nat) (c : Int) (x3 : Value) (pc pl : Addr) (w : World) (hb : ¬ b = pl.block) (hbc : ¬ b = pc.block) (hpc : w.cell? pc = some (.int .i64 c)) (hpl : w.cell? pl = some (.pointer (some ⟨b, 0, none⟩)))
    (h3 : w.cell? ⟨b, 3, none⟩ = some x3) (h4 : w.cell? ⟨b, 4, none⟩ = some (.chan (some ch))) (h5 : w.cell? ⟨b, 5, none⟩ = some (.int .u32 0)) (h6 : w.cell? ⟨b, 6, none⟩ = some (.int .i32 0))
    (f3 : w.frozen? ⟨b, 3, none⟩ = false) (f5 : w.frozen? ⟨b, 5, none⟩ = false) (f6 : w.frozen? ⟨b, 6, none⟩ = false) (hch : w.heap[ch]? = some (.chan 0 #[] false 0 0 false)) :
    Calls Try.prog 41 #[.pointer (some ⟨b, 5, none⟩), .func (.func 31) #[] #[.pointer (some pc), .pointer (some pl)]] w fun e w' => e = .returned (.tuple #[]) ∧ w' = endW w b ch c := by
  have hne : ch ≠ b := fun e => by subst e; simp [World.cell?, hch] at h3
  have hl := run_call_load (P := Try.prog) Try.func49 (by kernel_rfl) (by kernel_rfl) (by kernel_rfl) .u32 (by kernel_rfl) (w := w.setCell ⟨b, 6, none⟩ (.int .i32 1)) (a := ⟨b, 5, none⟩) (x := 0) ((World.cell?_setCell_other _ ⟨b, 6, none⟩ ⟨b, 5, none⟩ _ (by simp)).trans h5)
  have q1 : (w.setCell ⟨b, 6, none⟩ (.int .i32 1)).cell? pl = some (.pointer (some ⟨b, 0, none⟩)) := (World.cell?_setCell_other _ ⟨b, 6, none⟩ pl _ (fun h => hb (by rw [← h]))).trans hpl
  have q2 : (w.setCell ⟨b, 6, none⟩ (.int .i32 1)).cell? pc = some (.int .i64 c) := (World.cell?_setCell_other _ ⟨b, 6, none⟩ pc _ (fun h => hbc (by rw [← h]))).trans hpc
  have q3 : (w.setCell ⟨b, 6, none⟩ (.int .i32 1)).cell? ⟨b, 3, none⟩ = some x3 := (World.cell?_setCell_other _ ⟨b, 6, none⟩ ⟨b, 3, none⟩ _ (by simp)).trans h3
  have q4 : (w.setCell ⟨b, 6, none⟩ (.int .i32 1)).cell? ⟨b, 4, none⟩ = some (.chan (some ch)) := (World.cell?_setCell_other _ ⟨b, 6, none⟩ ⟨b, 4, none⟩ _ (by simp)).trans h4
  have z3 : (w.setCell ⟨b, 6, none⟩ (.int .i32 1)).frozen? ⟨b, 3, none⟩ = false := by simp [f3]
  have hch1 : (w.setCell ⟨b, 6, none⟩ (.int .i32 1)).heap[ch]? = some (.chan 0 #[] false 0 0 false) := (Below.heap_setCell _ _ _ _ hne).trans hch
  have hnot : ∀ (x : Bool) (w : World), (Op.unary .not (.bool x)).run Try.prog w = .ok (.bool (!x)) w := fun _ _ => rfl
  go_enter_defers Try.func41, Try.ntmps41
  go_wp2_with (first
    | (go_at_call 21; refine (lock_free Try.muLib ⟨b, 6, none⟩ _ h6 f6).mono ?_; rintro e w' ⟨rfl, rfl⟩)
    | (go_at_call 40; go_in)
    | (go_at_call 31; refine (endc_any b ch c x3 pc pl _ hb q2 q1 q3 q4 z3 hch1).mono ?_; rintro e w' ⟨rfl, rfl⟩))
  -- THE DOOR: two deferred calls, the last laid first
  refine leaves_cons (f := 50) (args := #[.pointer (some ⟨b, 5, none⟩), .bool true]) (by simp) (by simp [go_sem]) ?_
  refine (store_deferred ⟨b, 5, none⟩ (.int .u32 0) .returning _ ?_ ?_).mono ?_
  · rw [cell?_shut _ _ _ hne]
    exact (World.cell?_setCell_other _ ⟨b, 3, none⟩ ⟨b, 5, none⟩ _ (by simp)).trans ((World.cell?_setCell_other _ ⟨b, 6, none⟩ ⟨b, 5, none⟩ _ (by simp)).trans h5)
  · rw [frozen?_shut _ _ _ hne]; simp [f5]
  rintro e u' w'' ⟨rfl, rfl, rfl⟩
  refine leaves_cons (f := 22) (args := #[.pointer (some ⟨b, 6, none⟩)]) (by simp [settle]) (by simp [go_sem]) ?_
  refine (unlock_deferred Try.muLib ⟨b, 6, none⟩ _ _ ?_ ?_).mono ?_
  · refine (World.cell?_setCell_other _ ⟨b, 5, none⟩ ⟨b, 6, none⟩ _ (by simp)).trans ?_
    rw [World.cell?_drew, cell?_shut _ _ _ hne]
    exact (World.cell?_setCell_other _ ⟨b, 3, none⟩ ⟨b, 6, none⟩ _ (by simp)).trans (World.cell?_setCell_same w _ _ h6)
  · simp [frozen?_shut _ _ (⟨b, 6, none⟩ : Addr) hne, f6]
  rintro e u' w'' ⟨rfl, rfl, rfl⟩
  simp [Leaves, settle, results, Try.results41, endW]

set_option maxRecDepth 100000 in
set_option maxHeartbeats 400000 in
theorem do_first (b ch : Nat) (c : Int) (x3 : Value) (pc pl : Addr) (w : World) (hb : ¬ b = pl.block) (hbc : ¬ b = pc.block) (hpc : w.cell? pc = some (.int .i64 c)) (hpl : w.cell? pl = some (.pointer (some ⟨b, 0, none⟩)))
    (h3 : w.cell? ⟨b, 3, none⟩ = some x3) (h4 : w.cell? ⟨b, 4, none⟩ = some (.chan (some ch))) (h5 : w.cell? ⟨b, 5, none⟩ = some (.int .u32 0)) (h6 : w.cell? ⟨b, 6, none⟩ = some (.int .i32 0))
    (f3 : w.frozen? ⟨b, 3, none⟩ = false) (f5 : w.frozen? ⟨b, 5, none⟩ = false) (f6 : w.frozen? ⟨b, 6, none⟩ = false) (hch : w.heap[ch]? = some (.chan 0 #[] false 0 0 false)) :
    Calls Try.prog 30 #[.pointer (some ⟨b, 5, none⟩), .func (.func 31) #[] #[.pointer (some pc), .pointer (some pl)]] w fun e w' => e = .returned (.tuple #[]) ∧ w' = endW w b ch c := by
  have hl := run_call_load (P := Try.prog) Try.func49 (by kernel_rfl) (by kernel_rfl) (by kernel_rfl) .u32 (by kernel_rfl) h5
  have hnot : ∀ (x : Bool) (w : World), (Op.unary .not (.bool x)).run Try.prog w = .ok (.bool (!x)) w := fun _ _ => rfl
  go_enter Try.func30, Try.ntmps30
  go_wp2_with (first | (go_at_call 41; refine (slow_first b ch c x3 pc pl _ hb hbc hpc hpl h3 h4 h5 h6 f3 f5 f6 hch).mono ?_; rintro e w' ⟨rfl, rfl⟩) | (go_at_call 40; go_in))
  go_end0
  exact ⟨rfl, rfl⟩

set_option maxHeartbeats 400000 in
theorem do_done (a : Addr) (fv : Value) (w : World) (h0 : w.cell? a = some (.int .u32 1)) :
    Calls Try.prog 30 #[.pointer (some a), fv] w fun e w' => e = .returned (.tuple #[]) ∧ w' = w := by
  have hl := run_call_load (P := Try.prog) Try.func49 (by kernel_rfl) (by kernel_rfl) (by kernel_rfl) .u32 (by kernel_rfl) h0
  have hnot : ∀ (x : Bool) (w : World), (Op.unary .not (.bool x)).run Try.prog w = .ok (.bool (!x)) w := fun _ _ => rfl
  go_enter Try.func30, Try.ntmps30
  go_wp2
  go_end0
  exact ⟨rfl, rfl⟩
end Go.Proofs.Ytkkkndbfokjikab
