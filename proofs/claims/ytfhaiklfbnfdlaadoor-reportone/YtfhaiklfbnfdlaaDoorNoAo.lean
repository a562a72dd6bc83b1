/- What is proved: the code's appendOp; conditions: lengths. -/
import Derived.Test.YtfhaiklfbnfdlaaDoorNoAi
namespace Go.Proofs.YtfhaiklfbnfdlaaDoor
open Go.RowKit

theorem Oth.box {base b : Nat} {w w' : World} {arr : Array Value} {T : TypeId} {fz : Nat × Nat} (h : Oth base w w') (hb : w.heap[b]? = some (.cells arr T fz)) (hT : T ≠ 5) : w'.heap[b]? = some (.cells arr T fz) := h.2 b _ hb (fun c f e => by cases e; exact hT rfl)
theorem app1O {w : World} {base : Nat} {v : Value} {xs : List Int} (x : Int) (hown : OwnB base w v xs) (hb : xs.length + 1 ≤ 140737488355328) (hbase : base ≤ w.heap.size) (g : Nat) (hg : g = w.heap.size) (ty : TypeId) :
    ∃ v' w', (Builtin.append_ #[32, 32] ty #[v, .slice (some ⟨g, 0, none⟩) 1 1]).run Tryd.prog (w.alloc (.cells #[.int .u8 x] 5)) = .ok v' w' ∧ ApO base w (xs ++ [x]) v' w' := app_litO [x] hown hb hbase g hg ty
theorem app2O {w : World} {base : Nat} {v : Value} {xs : List Int} (x y : Int) (hown : OwnB base w v xs) (hb : xs.length + 2 ≤ 140737488355328) (hbase : base ≤ w.heap.size) (g : Nat) (hg : g = w.heap.size) (ty : TypeId) :
    ∃ v' w', (Builtin.append_ #[32, 32] ty #[v, .slice (some ⟨g, 0, none⟩) 2 2]).run Tryd.prog (w.alloc (.cells #[.int .u8 x, .int .u8 y] 5)) = .ok v' w' ∧ ApO base w (xs ++ [x, y]) v' w' := app_litO [x, y] hown hb hbase g hg ty
def keyL (o : OpM) : List UInt8 := o.key.data.toList
def valL (o : OpM) : List UInt8 := o.value.data.toList
/-- An operation's text. -/
def opL (o : OpM) : List UInt8 := [letr o.kind, 40] ++ wd (keyL o) ++ [41] ++ (if o.kind = 3 then [] else [61] ++ (if o.found = true then wd (valL o) else [45]))
theorem wd_len (l : List UInt8) : (wd l).length ≤ 2 * l.length + 1 := by
  unfold wd
  split
  · omega
  · rw [List.length_cons, hexs_len]; omega
/-- On the way: what is written so far, and the operation's box. -/
structure Ao (base : Nat) (w W : World) (v : Value) (ys : List Int) (ob : Obj) : Prop where
  own : OwnB base W v ys
  oth : Oth base w W
  box : W.heap[w.heap.size]? = some ob
theorem Ao.go {base : Nat} {w W W' : World} {v v' : Value} {ys zs : List Int} {arr : Array Value} {T : TypeId} (h : Ao base w W v ys (.cells arr T (0, 0))) (hT : T ≠ 5) (a : ApO base W zs v' W') : Ao base w W' v' zs (.cells arr T (0, 0)) := ⟨a.1, h.oth.trans a.2, a.2.box h.box hT⟩
theorem Ao.kept {base : Nat} {w W W' : World} {v : Value} {ys : List Int} {ob : Obj} (h : Ao base w W v ys ob) (k : Kept W W') : Ao base w W' v ys ob := ⟨h.own.kept k (fun _ _ h => h), h.oth.trans (Oth.kept k), (k.block _ (lt_of_heap h.box) (fun e => e)).trans h.box⟩
theorem Ao.size {base : Nat} {w W : World} {v : Value} {ys : List Int} {ob : Obj} (h : Ao base w W v ys ob) (hb : base ≤ w.heap.size) : base ≤ W.heap.size := Nat.le_trans hb h.oth.1.size

end Go.Proofs.YtfhaiklfbnfdlaaDoor
