/- What is proved: the calls of a stop's once: the first one lays the cause and closes the done channel, a later one changes nothing; the once's own lock is free and the stop's cells are there. -/
import Derived.Test.YtkkkndbfokjikabEnded
import Derived.Test.YtkkkndbfokjikabLocks
import Derived.Conc.MuLone
import Derived.Conc.EventLaws
import Derived.Defers
import Derived.RegionCalls
import Derived.BigFrame
namespace Go.Proofs.Ytkkkndbfokjikab
open Go.Conc Go.RowKit Go.MuLone

/-- The world with channel ch closed. -/
def shut (w : World) (ch : Nat) : World := { w with heap := w.heap.setIfInBounds ch (.chan 0 #[] true 0 0 false) }
theorem cell?_shut (w : World) (ch : Nat) (a : Addr) (h : ch ≠ a.block) : (shut w ch).cell? a = w.cell? a :=
  World.cell?_of_block (by simp [shut, Array.getElem?_setIfInBounds_ne h])
theorem frozen?_shut (w : World) (ch : Nat) (a : Addr) (h : ch ≠ a.block) : (shut w ch).frozen? a = w.frozen? a :=
  World.frozen?_of_block (by simp [shut, Array.getElem?_setIfInBounds_ne h])

/-- '(*sync/atomic.Bool).Store(true)', ENTERED AS A DEFERRED CALL: the cell holds 1. -/
theorem store_deferred (a : Addr) (x : Value) (u : FrameMode) (w : World) (hc : w.cell? a = some x) (hz : w.frozen? a = false) :
    CallsD Try.prog 50 #[.pointer (some a), .bool true] u w fun e u' w' => u' = u ∧ (e = .returned (.tuple #[]) ∧ w' = w.drew.setCell a (.int .u32 1)) := by
  have hc' : w.drew.cell? a = some x := by go_simp
  have hz' : w.drew.frozen? a = false := by go_simp
  have hst := run_call_store (P := Try.prog) Try.func51 (by kernel_rfl) (by kernel_rfl) (by kernel_rfl) (by kernel_rfl) (k := .u32) (y := 1) hc' hz'
  go_enter_d Try.func50, Try.ntmps50
  go_wp2
  go_region_calls
  all_goals (go_end0; exact ⟨rfl, rfl⟩)

set_option maxRecDepth 100000 in
set_option maxHeartbeats 400000 in
/-- The function that 'end' hands to the once. -/
theorem endc_any (b ch : Nat) (c : Int) (x3 : Value) (pc pl : Addr) (w : World) (hb : ¬ b = pl.block) (hpc : w.cell? pc = some (.int .i64 c)) (hpl : w.cell? pl = some (.pointer (some ⟨b, 0, none⟩)))
    (h3 : w.cell? ⟨b, 3, none⟩ = some x3) (h4 : w.cell? ⟨b, 4, none⟩ = some (.chan (some ch))) (f3 : w.frozen? ⟨b, 3, none⟩ = false) (hch : w.heap[ch]? = some (.chan 0 #[] false 0 0 false)) :
    Calls Try.prog 31 #[.pointer (some pc), .pointer (some pl)] w fun e w' => e = .returned (.tuple #[]) ∧ w' = shut (w.setCell ⟨b, 3, none⟩ (.int .i64 c)) ch := by
  have hne : ch ≠ b := fun e => by subst e; simp [World.cell?, hch] at h3
  have hp1 : (w.setCell ⟨b, 3, none⟩ (.int .i64 c)).cell? pl = some (.pointer (some ⟨b, 0, none⟩)) := (World.cell?_setCell_other _ ⟨b, 3, none⟩ pl _ (fun h => hb (by rw [← h]))).trans hpl
  have h41 : (w.setCell ⟨b, 3, none⟩ (.int .i64 c)).cell? ⟨b, 4, none⟩ = some (.chan (some ch)) := (World.cell?_setCell_other _ ⟨b, 3, none⟩ ⟨b, 4, none⟩ _ (by simp)).trans h4
  have hch1 : (w.setCell ⟨b, 3, none⟩ (.int .i64 c)).heap[ch]? = some (.chan 0 #[] false 0 0 false) := (Below.heap_setCell _ _ _ _ hne).trans hch
  have hcl := fun ats ty => run_close_open (P := Try.prog) (w := w.setCell ⟨b, 3, none⟩ (.int .i64 c)) ats ty hch1
  go_enter Try.func31, Try.ntmps31
  go_wp2
  go_end0
  exact ⟨rfl, rfl⟩
end Go.Proofs.Ytkkkndbfokjikab
