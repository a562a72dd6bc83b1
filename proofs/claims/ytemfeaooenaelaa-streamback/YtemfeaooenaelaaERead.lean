/- What is proved: Left, Largest and Holes of a space that lies in memory, and slices.Clone of its holes. -/
import Derived.Test.YtemfeaooenaelaaEIdx
namespace Go.Proofs.Ytemfeaooenaelaa
open Go.RowKit

/-- append as a law at the operation: whatever its run gives. -/
theorem ewpList_app {P : Program} {w : World} {ops : Array Oper} {rest : List Oper} {o : Oper} {a : Act} {Q : Exit → Act → World → Prop} (hgd : o.guard = none) (s x : Operand) (t : TypeId)
    (ho : o.op = .call { callee := .builtin .append, args := #[s, x], argTypes := #[t, t] }) (vs vx : Value) (hs : a.eval s = vs) (hx : a.eval x = vx) (R : Value → World → Prop)
    (hrun : ∀ ty, ∃ v' w', (Builtin.append_ #[t, t] ty #[vs, vx]).run P w = .ok v' w' ∧ R v' w') (h : ∀ v' w', R v' w' → wpList P ops Q rest (a.put o.dst v') w') : wpList P ops Q (o :: rest) a w := by
  refine wpList_plain hgd fun K hK => ?_
  obtain ⟨v', w', hr, hR⟩ := hrun o.type
  unfold Oper.wp
  simp [execOp, ho, resolve, invoke, builtin, hs, hx, hr, Result.andThen]
  exact hK _ _ (h v' w' hR)
/-- The same as one step of a region that draws its order. -/
theorem estep_app {P : Program} {ops : Array Oper} {o : Oper} {a : Act} {w : World} {K : Act → World → Prop} {Q : Exit → Act → World → Prop} {E : Prop} (hg : o.guard = none) (s x : Operand) (t : TypeId)
    (ho : o.op = .call { callee := .builtin .append, args := #[s, x], argTypes := #[t, t] }) (vs vx : Value) (hs : a.eval s = vs) (hx : a.eval x = vx) (R : Value → World → Prop)
    (hrun : ∀ ty, ∃ v' w', (Builtin.append_ #[t, t] ty #[vs, vx]).run P w = .ok v' w' ∧ R v' w') (h : ∀ v' w', R v' w' → K (a.put o.dst v') w') : if Region.wanted o (yielded ops a.tmps) = true then Oper.wp P o a w K Q else E := by
  have hw : Region.wanted o (yielded ops a.tmps) = true := by simp [Region.wanted, hg]
  rw [if_pos hw]
  obtain ⟨v', w', hr, hR⟩ := hrun o.type
  unfold Oper.wp
  simp only [execOp, ho, resolve, invoke, builtin, Sem.run_bind, Sem.run_pure, Result.andThen_ok, List.map_toArray, List.map_cons, List.map_nil, hs, hx, hr]
  exact h v' w' hR

theorem step_appw {P : Program} {ops : Array Oper} {o : Oper} {a : Act} {w : World} {K : Act → World → Prop} {Q : Exit → Act → World → Prop} {E : Prop} (hw : Region.wanted o (yielded ops a.tmps) = true) (s x : Operand) (t : TypeId)
    (ho : o.op = .call { callee := .builtin .append, args := #[s, x], argTypes := #[t, t] }) (vs vx : Value) (hs : a.eval s = vs) (hx : a.eval x = vx) (R : Value → World → Prop)
    (hrun : ∀ ty, ∃ v' w', (Builtin.append_ #[t, t] ty #[vs, vx]).run P w = .ok v' w' ∧ R v' w') (h : ∀ v' w', R v' w' → K (a.put o.dst v') w') : if Region.wanted o (yielded ops a.tmps) = true then Oper.wp P o a w K Q else E := by
  rw [if_pos hw]
  obtain ⟨v', w', hr, hR⟩ := hrun o.type
  unfold Oper.wp
  simp only [execOp, ho, resolve, invoke, builtin, Sem.run_bind, Sem.run_pure, Result.andThen_ok, List.map_toArray, List.map_cons, List.map_nil, hs, hx, hr]
  exact h v' w' hR

/-- A space of N blocks with the holes L lies in w: its own cells in block p, its holes at address a. -/
abbrev spO (N : Nat) (a : Option Addr) (n c : Nat) : Obj := .cells #[.int .i64 N, .slice a n c] 126 (0, 0)
structure Sp (w : World) (p N : Nat) (L : List Ex) (a : Option Addr) (hb c : Nat) : Prop where
  obj : w.heap[p]? = some (spO N a L.length c)
  row : (a = none ∧ L = [] ∧ c = 0 ∧ N = 0 ∧ hb = p) ∨ (a = some ⟨hb, 0, none⟩ ∧ Row w hb c L)
  wf : eWF 0 N L
  small : N ≤ 4096

theorem Sp.exts {w : World} {p N : Nat} {L : List Ex} {a : Option Addr} {hb c : Nat} (h : Sp w p N L a hb c) : ExtsAt w a L := by
  rcases h.row with ⟨rfl, rfl, _⟩ | ⟨rfl, hr⟩
  · exact ExtsAt.nil _ _
  · exact hr.exts
theorem Sp.lt {w : World} {p N : Nat} {L : List Ex} {a : Option Addr} {hb c : Nat} (h : Sp w p N L a hb c) : p < w.heap.size := lt_of_heap h.obj
theorem Sp.ltb {w : World} {p N : Nat} {L : List Ex} {a : Option Addr} {hb c : Nat} (h : Sp w p N L a hb c) : hb < w.heap.size := by
  rcases h.row with ⟨_, _, _, _, rfl⟩ | ⟨rfl, hr⟩
  · exact h.lt
  · exact hr.lt
theorem Sp.kept {S : Nat → Prop} {w w' : World} {p N : Nat} {L : List Ex} {a : Option Addr} {hb c : Nat} (h : Sp w p N L a hb c) (k : Same S w w') (h1 : ¬ S p) (h2 : ¬ S hb) : Sp w' p N L a hb c :=
  ⟨(k.block _ h.lt h1).trans h.obj, h.row.imp id (fun ⟨e, hr⟩ => ⟨e, hr.kept k h2⟩), h.wf, h.small⟩
theorem Sp.kept0 {w w' : World} {p N : Nat} {L : List Ex} {a : Option Addr} {hb c : Nat} (h : Sp w p N L a hb c) (k : Kept w w') : Sp w' p N L a hb c := h.kept k (fun f => f) (fun f => f)
theorem eWF.sm {N : Nat} {L : List Ex} (h : eWF 0 N L) (hN : N ≤ 4096) : ∀ e ∈ L, Sm e := fun e he => by
  have := h.mem he
  exact ⟨this.1, by omega, by omega⟩
theorem eWF.len {N : Nat} {L : List Ex} (h : eWF 0 N L) (hN : N ≤ 4096) : L.length ≤ 4096 := by
  rcases length_bounds h with rfl | q
  · exact Nat.zero_le _
  · omega

theorem sum_take {L : List Ex} {j : Nat} {e : Ex} (he : L[j]? = some e) : sum (L.take (j + 1)) = sum (L.take j) + e.c := by
  rw [List.take_add_one, he, sum_append]
  simp [sum]
theorem sum_take_le {lo N : Int} {L : List Ex} (h : eWF lo N L) (j : Nat) : 0 ≤ sum (L.take j) ∧ sum (L.take j) ≤ sum L := by
  rw [← List.take_append_drop j L] at h
  obtain ⟨m, h1, h2, h3, h4⟩ := wf_append.1 h
  have e : sum L = sum (L.take j) + sum (L.drop j) := by rw [← sum_append, List.take_append_drop]
  have := (sum_bounds h1).1
  have := (sum_bounds h4).1
  omega
def bigO (L : List Ex) : Int := L.foldl (fun b e => max b e.c) 0
theorem foldl_big (L : List Ex) (b : Int) (hb : 0 ≤ b) : L.foldl (fun b e => max b e.c) b = max b (big L) := by
  induction L generalizing b with
  | nil => simp only [List.foldl_nil, big]; omega
  | cons e r ih =>
    rw [List.foldl_cons, ih _ (by omega)]
    simp only [big]
    omega
theorem bigO_eq {N : Int} {L : List Ex} (h : eWF 0 N L) : bigO L = big L := by
  unfold bigO
  rw [foldl_big L 0 (Int.le_refl _)]
  rcases big_mem h with rfl | ⟨e, he, h1⟩
  · rfl
  · have := h.mem he; omega
theorem bigO_take {L : List Ex} {j : Nat} {e : Ex} (he : L[j]? = some e) : bigO (L.take (j + 1)) = max (bigO (L.take j)) e.c := by
  rw [List.take_add_one, he]
  simp [bigO]

set_option maxRecDepth 100000 in
set_option maxHeartbeats 800000 in
theorem left_any {w : World} {p N : Nat} {L : List Ex} {a : Option Addr} {hb c : Nat} (h : Sp w p N L a hb c) : Calls Try.prog 26 #[.pointer (some ⟨p, 0, none⟩)] w fun e w' => e = .returned (.int .i64 (sum L)) ∧ Kept w w' := by
  have c1 : w.cell? ⟨p, 1, none⟩ = some (.slice a L.length c) := (cell_of h.obj 1).trans rfl
  have hpl := h.lt
  have hb1 := (sum_bounds h.wf)
  have hs' : sum L ≤ 4096 := by
    have := h.small
    rcases hb1.2 with rfl | q
    · simp [sum]
    · omega
  have HT : Hid _ := fun j => sum_take_le h.wf j
  have HL : Hid _ := h.exts
  have hn := h.wf.len h.small
  have HM : Hid _ := fun (e : Ex) (he : e ∈ L) => h.wf.sm h.small e he
  clear h hb1
  obtain ⟨n, en⟩ : ∃ n, n = L.length := ⟨_, rfl⟩
  rw [← en] at hn c1
  have EN : Hid _ := en
  clear en
  go_enter Try.func26, Try.ntmps26
  go_wp2_with fail
  go_loopw [3, 11] (fun s i wr => ∃ j : Nat, j ≤ n ∧ i = .int .i64 j ∧ s = .int .i64 (sum (L.take j)) ∧ Kept w wr) (fun _ i _ => n - (intOf i).toNat)
  case atStart => exact ⟨0, Nat.zero_le _, rfl, rfl, Same.refl _ _⟩
  case round =>
    obtain ⟨j, hj, rfl, rfl, kk⟩ := hrel
    have KK : Hid _ := kk
    obtain ⟨t0, t1⟩ := HT.out j
    by_cases hlt : j < n
    · have c1' : decide ((j : Int) < (n : Int)) = true := by simp only [decide_eq_true_eq]; omega
      have hlt2 : (j : Int) < (n : Int) := by omega
      obtain ⟨e, he⟩ : ∃ e, L[j]? = some e := ⟨_, List.getElem?_eq_getElem (by rw [← EN.out]; exact hlt)⟩
      obtain ⟨b, off, rfl, hb, q0, q1⟩ := (ExtsAt.kept HL.out kk (fun _ _ h => h)) j e he
      obtain ⟨m1, m2, m3⟩ := HM.out e (List.mem_of_getElem? he)
      have HS : Hid _ := sum_take he
      obtain ⟨S, eS⟩ : ∃ S, S = sum (L.take j) := ⟨_, rfl⟩
      rw [← eS] at t0 t1 HS ⊢
      obtain ⟨S', eS'⟩ : ∃ S', S' = sum L := ⟨_, rfl⟩
      rw [← eS'] at t1 hs'
      clear kk he eS eS'
      go_wp2_with fail
      go_roundw
      case rel => exact ⟨j + 1, by omega, by simp, by rw [HS.out], KK.out.alloc _⟩
      case measure => simp only [intOf]; omega
    · have c1' : decide ((j : Int) < (n : Int)) = false := by simp only [decide_eq_false_iff_not]; omega
      obtain rfl : j = n := by omega
      clear kk
      have EE : Hid (sum (L.take j) = sum L) := by rw [EN.out, List.take_length]; exact rfl
      clear t0 t1
      go_wp2_with fail
      go_ret
      exact ⟨by rw [← EE.out]; rfl, KK.out⟩

/-- A row of one's own: what a clone is. -/
def Cloned (w : World) (L : List Ex) (v : Value) (w' : World) : Prop :=
  ((v = .slice none 0 0 ∧ L = []) ∨ ∃ g cap, v = .slice (some ⟨g, 0, none⟩) L.length cap ∧ w.heap.size ≤ g ∧ Row w' g cap L) ∧ Kept w w'
theorem clone_runE {w : World} {L : List Ex} {b : Nat} {off c : Nat} (hl : ExtsAt w (some ⟨b, off, none⟩) L) (hn : L.length ≤ 4096) (ty : TypeId) :
    ∃ v' w', (Builtin.append_ #[108, 108] ty #[.slice (some ⟨w.heap.size, 0, none⟩) 0 0, .slice (some ⟨b, off, none⟩) L.length c]).run Try.prog (w.alloc (.cells #[] 100)) = .ok v' w' ∧ Cloned w L v' w' := by
  have k1 : Kept w (w.alloc (.cells #[] 100)) := (Same.refl _ w).alloc _
  have hl' := hl.kept k1 (fun _ _ h => h)
  by_cases h0 : L.length = 0
  · obtain rfl : L = [] := List.eq_nil_of_length_eq_zero h0
    have hA : Blk (w.alloc (.cells #[] 100)) w.heap.size [] := heap_new _ _
    obtain ⟨w', r1, r2, r3⟩ := app_room (i := 0) (c := 0) (vc := c) hA rfl hl' (Nat.le_refl _) ty
    refine ⟨_, w', r1, .inr ⟨w.heap.size, 0, rfl, Nat.le_refl _, _, r2, ?_, Nat.le_refl _, fun k hk => by simp at hk⟩, k1.trans r3 (fun i hi e => by omega)⟩
    simp [splice, ecs]
  · obtain ⟨w', c', r1, r2, r3⟩ := app_grow (w := w.alloc (.cells #[] 100)) (bb := w.heap.size) (bo := 0) (c := 0) (i := 0) (I := []) (vc := c) rfl (ExtsAt.nil _ _) hl' (by omega) (by omega) ty
    rw [Nat.zero_add, List.nil_append] at *
    refine ⟨_, w', r1, .inr ⟨_, c', rfl, by simp, r2⟩, k1.trans' r3⟩

set_option maxRecDepth 100000 in
set_option maxHeartbeats 1600000 in
theorem cloneE_any (w : World) (a : Option Addr) (c : Nat) (L : List Ex) (hl : ExtsAt w a L) (ha : (a = none ∧ L = [] ∧ c = 0) ∨ ∃ b off, a = some ⟨b, off, none⟩) (hn : L.length ≤ 4096) :
    Calls Try.prog 65 #[.slice a L.length c] w fun e w' => ∃ v, e = .returned v ∧ Cloned w L v w' := by
  have q : ∀ (w : World) (a : Option Addr) (n c n' c' : Nat), (binOp .eql 108 (.slice a n c) (.slice none n' c')).run Try.prog w = .ok (.bool a.isNone) w := fun w a n c n' c' => Lib.run_eql_slice_nil w _ _ a n c n' c' Try.underlying108
  rcases ha with ⟨rfl, rfl, rfl⟩ | ⟨b, off, rfl⟩
  · clear hl hn
    go_enter Try.func65, Try.ntmps65
    go_wp2_with fail
    go_ret
    exact ⟨_, rfl, .inl ⟨rfl, rfl⟩, Same.refl _ _⟩
  · have HR : Hid _ := clone_runE (c := c) hl hn
    obtain ⟨n, en⟩ : ∃ n, n = L.length := ⟨_, rfl⟩
    rw [← en] at HR ⊢
    clear hl hn en
    go_enter Try.func65, Try.ntmps65
    go_wp2_with (at_builtin; refine ewpList_app rfl (.tmp 5) (.tmp 6) 108 rfl _ _ rfl rfl _ HR.out ?_; intro v' w1 hR)
    go_ret
    exact ⟨v', rfl, hR⟩
set_option maxRecDepth 100000 in
theorem holes_any {w : World} {p N : Nat} {L : List Ex} {a : Option Addr} {hb c : Nat} (h : Sp w p N L a hb c) : Calls Try.prog 40 #[.pointer (some ⟨p, 0, none⟩)] w fun e w' => ∃ v, e = .returned v ∧ Cloned w L v w' := by
  have c1 : w.cell? ⟨p, 1, none⟩ = some (.slice a L.length c) := (cell_of h.obj 1).trans rfl
  have hpl := h.lt
  have HC : Hid _ := cloneE_any w a c L h.exts (by rcases h.row with ⟨r1, r2, r3, _⟩ | ⟨r1, _⟩
                                                   · exact .inl ⟨r1, r2, r3⟩
                                                   · exact .inr ⟨_, _, r1⟩) (h.wf.len h.small)
  clear h
  go_enter Try.func40, Try.ntmps40
  go_wp2_with fail
  refine Calls.mono HC.out ?_
  rintro e w1 ⟨v, rfl, hv⟩
  have HV : Hid _ := hv
  clear hv
  go_wp2_with fail
  go_ret
  exact ⟨v, rfl, HV.out⟩
end Go.Proofs.Ytemfeaooenaelaa
