/- What is proved: plain facts on boxes and operations in memory; no condition. -/
import Derived.Test.YtfhaiklfbnfdlaaDoorWForm
import Derived.Test.YtfhaiklfbnfdlaaDoorRModel
import Derived.WalkSmall
namespace Go.Proofs.YtfhaiklfbnfdlaaDoor
open Go.RowKit

theorem cell_box {w w1 : World} {S : Nat → Prop} {v : Value} {ty : TypeId} (hs : Same S (w.alloc (.cells #[v] ty (0, 0))) w1) (hn : ¬ S w.heap.size) : w1.cell? ⟨w.heap.size, 0, none⟩ = some v := by
  rw [hs.cell (by simp [World.size_alloc]) hn]
  exact (cell_of (heap_new w _) 0).trans rfl

theorem two_new (w : World) (o1 o2 : Obj) : ((w.alloc o1).alloc o2).heap[w.heap.size]? = some o1 ∧ ((w.alloc o1).alloc o2).heap[w.heap.size + 1]? = some o2 := by
  refine ⟨(heap_old _ _ (by simp [World.size_alloc])).trans (heap_new _ _), ?_⟩
  have := heap_new (w.alloc o1) o2
  rwa [World.size_alloc] at this
theorem Same.two {S : Nat → Prop} {w w1 : World} {o1 o2 : Obj} (hs : Same S ((w.alloc o1).alloc o2) w1) (h1 : ¬ S w.heap.size) (h2 : ¬ S (w.heap.size + 1)) : w1.heap[w.heap.size]? = some o1 ∧ w1.heap[w.heap.size + 1]? = some o2 :=
  ⟨(hs.block _ (by simp [World.size_alloc]; omega) h1).trans (two_new w o1 o2).1, (hs.block _ (by simp [World.size_alloc]) h2).trans (two_new w o1 o2).2⟩
theorem Same.block_set {w : World} {b c o : Nat} {u : Value} (h : ¬ b = c) : w.heap[b]? = (w.setCell ⟨c, o, none⟩ u).heap[b]? := by
  by_cases hb : b < w.heap.size
  · exact ((Same.setCell (Same.refl (fun k => k = c) w) ⟨c, o, none⟩ (.inr rfl) u).block b hb h).symm
  · have hs : (w.setCell ⟨c, o, none⟩ u).heap.size = w.heap.size := by simp [World.setCell]
    rw [Array.getElem?_eq_none (by omega), Array.getElem?_eq_none (by omega)]
theorem rd_nz {I : Item} {r : List Int} {e : Int} (h : rd I r = .error e) : e ≠ 0 := by
  have := (rd_err h).1
  omega

theorem results_c {fn : Func} {a t : Nat} {P : Program} {w : World} {tmps : Array Value} {ad : Addr} {v : Value} (h : fn.results = #[.cell a t]) (ha : tmps.getD a undef = .pointer (some ad)) (hv : (loadVar t ad).run P w = .ok v w) : (results fn tmps).run P w = .ok v w := by
  have ha' : tmps[a]?.getD undef = .pointer (some ad) := by simpa using ha
  simp [results, h, ha', asAddr, hv]
/-- An operation is stored. -/
def put4 (w : World) (b : Nat) (v0 v1 v2 v3 : Value) : World := (((w.setCell ⟨b, 0, none⟩ v0).setCell ⟨b, 1, none⟩ v1).setCell ⟨b, 2, none⟩ v2).setCell ⟨b, 3, none⟩ v3
theorem put4_same (w : World) (b : Nat) (v0 v1 v2 v3 : Value) : Same (fun k => k = b) w (put4 w b v0 v1 v2 v3) :=
  ((((Same.refl (fun k => k = b) w).setCell _ (.inr rfl) _).setCell _ (.inr rfl) _).setCell _ (.inr rfl) _).setCell _ (.inr rfl) _
def opV (o : OpM) : Value := .agg #[.int .i64 o.kind, .string o.key, .bool o.found, .string o.value]
end Go.Proofs.YtfhaiklfbnfdlaaDoor
