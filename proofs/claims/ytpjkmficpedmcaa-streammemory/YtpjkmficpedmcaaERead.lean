/- What is proved: Left, Largest and Holes of a space that lies in memory, and slices.Clone of its holes. -/
import Derived.Test.YtpjkmficpedmcaaEIdx
namespace Go.Proofs.Ytpjkmficpedmcaa
open Go.RowKit

/-- append as a law at the operation: whatever its run gives. -/
theorem ewpList_app {P : Program} {w : World} {ops : Array Oper} {rest : List Oper} {o : Oper} {a : Act} {Q : Exit → Act → World → Prop} (hgd : o.guard = none) (s x : Operand) (t : TypeId)
    (ho : o.op = .call { callee := .builtin .append, args := #[s, x], argTypes := #[t, t] }) (vs vx : Value) (hs : a.eval s = vs) (hx : a.eval x = vx) (R : Value → World → Prop)
    (hrun : ∀ ty, ∃ v' w', (Builtin.append_ #[t, t] ty #[vs, vx]).run P w = .ok v' w' ∧ R v' w') (h : ∀ v' w', R v' w' → wpList P ops Q rest (a.put o.dst v') w') : wpList P ops Q (o :: rest) a w := by
  refine wpList_plain hgd fun K hK => ?_
  obtain ⟨v', w', hr, hR⟩ := hrun o.type
  unfold Oper.wp
  simp [execOp, ho, resolve, invoke, builtin, hs, hx, hr, Result.andThen]
  exact hK _ _ (h v' w' hR)
/-- The same as one step of a region that draws its order. -/
theorem estep_app {P : Program} {ops : Array Oper} {o : Oper} {a : Act} {w : World} {K : Act → World → Prop} {Q : Exit → Act → World → Prop} {E : Prop} (hg : o.guard = none) (s x : Operand) (t : TypeId)
    (ho : o.op = .call { callee := .builtin .append, args := #[s, x], argTypes := #[t, t] }) (vs vx : Value) (hs : a.eval s = vs) (hx : a.eval x = vx) (R : Value → World → Prop)
    (hrun : ∀ ty, ∃ v' w', (Builtin.append_ #[t, t] ty #[vs, vx]).run P w = .ok v' w' ∧ R v' w') (h : ∀ v' w', R v' w' → K (a.put o.dst v') w') : if Region.wanted o (yielded ops a.tmps) = true then Oper.wp P o a w K Q else E := by
  have hw : Region.wanted o (yielded ops a.tmps) = true := by simp [Region.wanted, hg]
  rw [if_pos hw]
  obtain ⟨v', w', hr, hR⟩ := hrun o.type
  unfold Oper.wp
  simp only [execOp, ho, resolve, invoke, builtin, Sem.run_bind, Sem.run_pure, Result.andThen_ok, List.map_toArray, List.map_cons, List.map_nil, hs, hx, hr]
  exact h v' w' hR

theorem step_appw {P : Program} {ops : Array Oper} {o : Oper} {a : Act} {w : World} {K : Act → World → Prop} {Q : Exit → Act → World → Prop} {E : Prop} (hw : Region.wanted o (yielded ops a.tmps) = true) (s x : Operand) (t : TypeId)
    (ho : o.op = .call { callee := .builtin .append, args := #[s, x], argTypes := #[t, t] }) (vs vx : Value) (hs : a.eval s = vs) (hx : a.eval x = vx) (R : Value → World → Prop)
    (hrun : ∀ ty, ∃ v' w', (Builtin.append_ #[t, t] ty #[vs, vx]).run P w = .ok v' w' ∧ R v' w') (h : ∀ v' w', R v' w' → K (a.put o.dst v') w') : if Region.wanted o (yielded ops a.tmps) = true then Oper.wp P o a w K Q else E := by
  rw [if_pos hw]
  obtain ⟨v', w', hr, hR⟩ := hrun o.type
  unfold Oper.wp
  simp only [execOp, ho, resolve, invoke, builtin, Sem.run_bind, Sem.run_pure, Result.andThen_ok, List.map_toArray, List.map_cons, List.map_nil, hs, hx, hr]
  exact h v' w' hR

/-- A space of N blocks with the holes L lies in w: its own cells in block p, its holes at address a. -/
abbrev spO (N : Nat) (a : Option Addr) (n c : Nat) : Obj := .cells #[.int .i64 N, .slice a n c] 63 (0, 0)
structure Sp (w : World) (p N : Nat) (L : List Ex) (a : Option Addr) (hb c : Nat) : Prop where
  obj : w.heap[p]? = some (spO N a L.length c)
  row : (a = none ∧ L = [] ∧ c = 0 ∧ N = 0 ∧ hb = p) ∨ (a = some ⟨hb, 0, none⟩ ∧ Row w hb c L)
  wf : eWF 0 N L
  small : N ≤ 4096

theorem Sp.exts {w : World} {p N : Nat} {L : List Ex} {a : Option Addr} {hb c : Nat} (h : Sp w p N L a hb c) : ExtsAt w a L := by
  rcases h.row with ⟨rfl, rfl, _⟩ | ⟨rfl, hr⟩
  · exact ExtsAt.nil _ _
  · exact hr.exts
theorem Sp.lt {w : World} {p N : Nat} {L : List Ex} {a : Option Addr} {hb c : Nat} (h : Sp w p N L a hb c) : p < w.heap.size := lt_of_heap h.obj
theorem Sp.ltb {w : World} {p N : Nat} {L : List Ex} {a : Option Addr} {hb c : Nat} (h : Sp w p N L a hb c) : hb < w.heap.size := by
  rcases h.row with ⟨_, _, _, _, rfl⟩ | ⟨rfl, hr⟩
  · exact h.lt
  · exact hr.lt
theorem Sp.kept {S : Nat → Prop} {w w' : World} {p N : Nat} {L : List Ex} {a : Option Addr} {hb c : Nat} (h : Sp w p N L a hb c) (k : Same S w w') (h1 : ¬ S p) (h2 : ¬ S hb) : Sp w' p N L a hb c :=
  ⟨(k.block _ h.lt h1).trans h.obj, h.row.imp id (fun ⟨e, hr⟩ => ⟨e, hr.kept k h2⟩), h.wf, h.small⟩
theorem Sp.kept0 {w w' : World} {p N : Nat} {L : List Ex} {a : Option Addr} {hb c : Nat} (h : Sp w p N L a hb c) (k : Kept w w') : Sp w' p N L a hb c := h.kept k (fun f => f) (fun f => f)
theorem eWF.sm {N : Nat} {L : List Ex} (h : eWF 0 N L) (hN : N ≤ 4096) : ∀ e ∈ L, Sm e := fun e he => by
  have := h.mem he
  exact ⟨this.1, by omega, by omega⟩
theorem eWF.len {N : Nat} {L : List Ex} (h : eWF 0 N L) (hN : N ≤ 4096) : L.length ≤ 4096 := by
  rcases length_bounds h with rfl | q
  · exact Nat.zero_le _
  · omega

theorem sum_take {L : List Ex} {j : Nat} {e : Ex} (he : L[j]? = some e) : sum (L.take (j + 1)) = sum (L.take j) + e.c := by
  rw [List.take_add_one, he, sum_append]
  simp [sum]
theorem sum_take_le {lo N : Int} {L : List Ex} (h : eWF lo N L) (j : Nat) : 0 ≤ sum (L.take j) ∧ sum (L.take j) ≤ sum L := by
  rw [← List.take_append_drop j L] at h
  obtain ⟨m, h1, h2, h3, h4⟩ := wf_append.1 h
  have e : sum L = sum (L.take j) + sum (L.drop j) := by rw [← sum_append, List.take_append_drop]
  have := (sum_bounds h1).1
  have := (sum_bounds h4).1
  omega
def bigO (L : List Ex) : Int := L.foldl (fun b e => max b e.c) 0
theorem foldl_big (L : List Ex) (b : Int) (hb : 0 ≤ b) : L.foldl (fun b e => max b e.c) b = max b (big L) := by
  induction L generalizing b with
  | nil => simp only [List.foldl_nil, big]; omega
  | cons e r ih =>
    rw [List.foldl_cons, ih _ (by omega)]
    simp only [big]
    omega
theorem bigO_eq {N : Int} {L : List Ex} (h : eWF 0 N L) : bigO L = big L := by
  unfold bigO
  rw [foldl_big L 0 (Int.le_refl _)]
  rcases big_mem h with rfl | ⟨e, he, h1⟩
  · rfl
  · have := h.mem he; omega
theorem bigO_take {L : List Ex} {j : Nat} {e : Ex} (he : L[j]? = some e) : bigO (L.take (j + 1)) = max (bigO (L.take j)) e.c := by
  rw [List.take_add_one, he]
  simp [bigO]

/-- A row of one's own: what a clone is. -/
def Cloned (w : World) (L : List Ex) (v : Value) (w' : World) : Prop :=
  ((v = .slice none 0 0 ∧ L = []) ∨ ∃ g cap, v = .slice (some ⟨g, 0, none⟩) L.length cap ∧ w.heap.size ≤ g ∧ Row w' g cap L) ∧ Kept w w'
theorem clone_runE {w : World} {L : List Ex} {b : Nat} {off c : Nat} (hl : ExtsAt w (some ⟨b, off, none⟩) L) (hn : L.length ≤ 4096) (ty : TypeId) :
    ∃ v' w', (Builtin.append_ #[61, 61] ty #[.slice (some ⟨w.heap.size, 0, none⟩) 0 0, .slice (some ⟨b, off, none⟩) L.length c]).run Try.prog (w.alloc (.cells #[] 65)) = .ok v' w' ∧ Cloned w L v' w' := by
  have k1 : Kept w (w.alloc (.cells #[] 65)) := (Same.refl _ w).alloc _
  have hl' := hl.kept k1 (fun _ _ h => h)
  by_cases h0 : L.length = 0
  · obtain rfl : L = [] := List.eq_nil_of_length_eq_zero h0
    have hA : Blk (w.alloc (.cells #[] 65)) w.heap.size [] := heap_new _ _
    obtain ⟨w', r1, r2, r3⟩ := app_room (i := 0) (c := 0) (vc := c) hA rfl hl' (Nat.le_refl _) ty
    refine ⟨_, w', r1, .inr ⟨w.heap.size, 0, rfl, Nat.le_refl _, _, r2, ?_, Nat.le_refl _, fun k hk => by simp at hk⟩, k1.trans r3 (fun i hi e => by omega)⟩
    simp [splice, ecs]
  · obtain ⟨w', c', r1, r2, r3⟩ := app_grow (w := w.alloc (.cells #[] 65)) (bb := w.heap.size) (bo := 0) (c := 0) (i := 0) (I := []) (vc := c) rfl (ExtsAt.nil _ _) hl' (by omega) (by omega) ty
    rw [Nat.zero_add, List.nil_append] at *
    refine ⟨_, w', r1, .inr ⟨_, c', rfl, by simp, r2⟩, k1.trans' r3⟩

end Go.Proofs.Ytpjkmficpedmcaa
