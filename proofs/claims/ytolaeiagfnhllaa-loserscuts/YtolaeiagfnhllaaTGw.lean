/- What is proved: lists of rows that grow beside one another, each in a row of its own, and the table that holds them; rows that rise; no condition. -/
import Derived.Test.YtolaeiagfnhllaaTMrg
namespace Go.Proofs.Ytolaeiagfnhllaa
open Go.RowKit

/-- An append as one step of a region that draws its order. -/
theorem step_app {P : Program} {ops : Array Oper} {o : Oper} {a : Act} {w : World} {K : Act → World → Prop} {Q : Exit → Act → World → Prop} {E : Prop} (hg : o.guard = none) (s x : Operand) (t : TypeId)
    (ho : o.op = .call { callee := .builtin .append, args := #[s, x], argTypes := #[t, t] }) (vs vx : Value) (hs : a.eval s = vs) (hx : a.eval x = vx) (R : Value → World → Prop)
    (hrun : ∀ ty, ∃ v' w', (Builtin.append_ #[t, t] ty #[vs, vx]).run P w = .ok v' w' ∧ R v' w') (h : ∀ v' w', R v' w' → K (a.put o.dst v') w') : if Region.wanted o (yielded ops a.tmps) = true then Oper.wp P o a w K Q else E := by
  have hw : Region.wanted o (yielded ops a.tmps) = true := by simp [Region.wanted, hg]
  rw [if_pos hw]
  obtain ⟨v', w', hr, hR⟩ := hrun o.type
  unfold Oper.wp
  simp only [execOp, ho, resolve, invoke, builtin, Sem.run_bind, Sem.run_pure, Result.andThen_ok, List.map_toArray, List.map_cons, List.map_nil, hs, hx, hr]
  exact h v' w' hR
theorem app_row_at {w : World} {base b : Nat} {v : Value} {xs : List RwM} (r : RwM) (hown : OwnR base w v xs) (hcell : w.heap[b]? = some (.cells #[.int .i64 r.kind, .int .i64 r.time, .int .i64 r.seq, .int .i64 r.index, .int .i64 r.frm, .int .i64 r.til, .string r.body] 32 (0, 0))) (hb : xs.length + 1 ≤ 2199023255552) (hbase : base ≤ w.heap.size) (ty : TypeId) :
    ∃ v' w', (Builtin.append_ #[39, 39] ty #[v, .slice (some ⟨b, 0, none⟩) 1 1]).run Try.prog w = .ok v' w' ∧ OwnR base w' v' (xs ++ [r]) ∧ Same (fun k => v.ownBlock = some k) w w' ∧ ∀ k, v'.ownBlock = some k → v.ownBlock = some k ∨ w.heap.size ≤ k := by
  obtain ⟨i0, hi0, hz0, hz1, hz2⟩ := info_parts Try.infoRow
  obtain ⟨v', w', hr, r1, r2, _, r3⟩ := run_append_own_at (P := Try.prog) (w := w) base 39 ty 32 i0 _ 7 64 Try.underlying39 hi0 hz0 hz1 hz2 rfl (by decide) v xs.length _ hown ⟨b, 0, none⟩ 1 1 (rwc [r]) (length_rwc [r])
    (fun j u hu => by
      rw [Addr.add_lit, Nat.zero_add, cell_of hcell]
      rw [show rwc [r] = rc1 r from List.append_nil _] at hu
      simpa [rc1] using hu) (rwc_one _) (by unfold maxLen; omega) (by omega) hbase
  rw [← rwc_append] at r1
  refine ⟨v', w', hr, by rw [OwnR, List.length_append]; exact r1, Same.of_grown r2 (fun k e => e), fun k hk => ?_⟩
  rcases r3 with e | e
  · exact .inl (e ▸ hk)
  · rw [e] at hk
    cases hk
    exact .inr (by omega)
/-- No list as yet. -/
def nls : Value := .slice none 0 0
/-- The lists L lie beside one another, the table of them in block lb; A lies apart of all. -/
structure Gw (w wr : World) (B lb : Nat) (V : List Value) (L : List (List RwM)) (v : Value) (A : List RwM) : Prop where
  same : Same (fun k => w.heap.size ≤ k) w wr
  lb0 : w.heap.size ≤ lb
  lb1 : lb < B
  sz : B ≤ wr.heap.size
  tab : wr.heap[lb]? = some (.cells V.toArray 39 (0, 0))
  len : V.length = L.length
  own : ∀ i, i < L.length → OwnR B wr (V.getD i nls) (L.getD i [])
  all : OwnR B wr v A
  ap : ∀ i j k, i < L.length → j < L.length → i ≠ j → (V.getD i nls).ownBlock = some k → (V.getD j nls).ownBlock ≠ some k
  apA : ∀ i k, i < L.length → (V.getD i nls).ownBlock = some k → v.ownBlock ≠ some k
theorem Gw.on {w wr W : World} {B lb : Nat} {V : List Value} {L : List (List RwM)} {v : Value} {A : List RwM} (h : Gw w wr B lb V L v A) (k : Kept wr W) : Gw w W B lb V L v A :=
  ⟨h.same.trans' (k.to _), h.lb0, h.lb1, Nat.le_trans h.sz k.size, (k.block _ (lt_of_heap h.tab) (fun e => e)).trans h.tab, h.len, fun i hi => (h.own i hi).kept k (fun _ _ e => e), h.all.kept k (fun _ _ e => e), h.ap, h.apA⟩
theorem Gw.kept {w wr : World} {B lb : Nat} {V : List Value} {L : List (List RwM)} {v : Value} {A : List RwM} (h : Gw w wr B lb V L v A) : Kept w wr := h.same.mono fun i hi e => by omega
theorem Gw.cell {w wr : World} {B lb : Nat} {V : List Value} {L : List (List RwM)} {v : Value} {A : List RwM} (h : Gw w wr B lb V L v A) {i : Nat} (hi : i < L.length) : wr.cell? ⟨lb, i, none⟩ = some (V.getD i nls) ∧ wr.frozen? ⟨lb, i, none⟩ = false ∧ lb < wr.heap.size := by
  refine ⟨?_, frozen_of h.tab i, lt_of_heap h.tab⟩
  rw [cell_of h.tab]
  have hi2 : i < V.length := by rw [h.len]; exact hi
  simp [List.getD_eq_getElem?_getD, hi2]
/-- One row more in list i. -/
theorem Gw.put {w wr W w3 : World} {B lb : Nat} {V : List Value} {L : List (List RwM)} {v v3 : Value} {A : List RwM} (h : Gw w wr B lb V L v A) (k : Kept wr W) {i : Nat} (hi : i < L.length) {r : RwM} (o3 : OwnR B w3 v3 (L.getD i [] ++ [r])) (k3 : Same (fun k => (V.getD i nls).ownBlock = some k) W w3) (n3 : ∀ k, v3.ownBlock = some k → (V.getD i nls).ownBlock = some k ∨ W.heap.size ≤ k) :
    Gw w (w3.setCell ⟨lb, i, none⟩ v3) B lb (V.set i v3) (L.set i (L.getD i [] ++ [r])) v A := by
  have g := h.on k
  have hlb : ∀ j, j < L.length → (V.getD j nls).ownBlock ≠ some lb := fun j hj e => by
    have h1 := ((h.own j hj).block e).1
    have h2 := h.lb1
    omega
  have hv : v.ownBlock ≠ some lb := fun e => by
    have h1 := (h.all.block e).1
    have h2 := h.lb1
    omega
  have s4 : Same (fun k => k = lb) w3 (w3.setCell ⟨lb, i, none⟩ v3) := (Same.refl (fun k => k = lb) w3).setCell ⟨lb, i, none⟩ (.inr rfl) _
  have t3 : w3.heap[lb]? = some (.cells V.toArray 39 (0, 0)) := (k3.block lb (lt_of_heap g.tab) (hlb i hi)).trans g.tab
  have hi2 : i < V.length := by rw [h.len]; exact hi
  refine ⟨?_, h.lb0, h.lb1, Nat.le_trans g.sz (Nat.le_trans k3.size s4.size), ?_, by simp [h.len], fun j hj => ?_, ?_, fun a b q ha hb hab e1 e2 => ?_, fun a q ha e1 e2 => ?_⟩
  · refine (g.same.trans k3 fun b _ e => ?_).trans s4 fun b _ e => by rw [e]; exact h.lb0
    have h1 := ((h.own i hi).block e).1
    have := h.lb0
    have := h.lb1
    omega
  · rw [setCell_at t3]
    simp
  · rw [List.length_set] at hj
    by_cases e : i = j
    · subst e
      rw [getD_set_eq' hi2, getD_set_eq' hi]
      exact o3.kept s4 fun q hq e => by
        subst e
        have h1 := (o3.block hq).1
        have := h.lb1
        omega
    · rw [getD_set_ne' e, getD_set_ne' e]
      exact ((g.own j hj).kept k3 fun q hq e2 => h.ap i j q hi hj e e2 hq).kept s4 fun q hq e2 => by subst e2; exact hlb j hj hq
  · exact (g.all.kept k3 fun q hq e2 => h.apA i q hi e2 hq).kept s4 fun q hq e2 => by subst e2; exact hv hq
  · rw [List.length_set] at ha hb
    by_cases ea : i = a
    · subst ea
      rw [getD_set_eq' hi2] at e1
      rw [getD_set_ne' hab] at e2
      rcases n3 q e1 with h1 | h1
      · exact h.ap i b q hi hb hab h1 e2
      · have := ((g.own b hb).block e2).2
        omega
    · rw [getD_set_ne' ea] at e1
      by_cases eb : i = b
      · subst eb
        rw [getD_set_eq' hi2] at e2
        rcases n3 q e2 with h1 | h1
        · exact h.ap i a q hi ha (Ne.symm hab) h1 e1
        · have := ((g.own a ha).block e1).2
          omega
      · rw [getD_set_ne' eb] at e2
        exact h.ap a b q ha hb hab e1 e2
  · rw [List.length_set] at ha
    by_cases ea : i = a
    · subst ea
      rw [getD_set_eq' hi2] at e1
      rcases n3 q e1 with h1 | h1
      · exact h.apA i q hi h1 e2
      · have := (g.all.block e2).2
        omega
    · rw [getD_set_ne' ea] at e1
      exact h.apA a q ha e1 e2
/-- One row more in A. -/
theorem Gw.more {w wr W w3 : World} {B lb : Nat} {V : List Value} {L : List (List RwM)} {v v3 : Value} {A : List RwM} (h : Gw w wr B lb V L v A) (k : Kept wr W) {r : RwM} (o3 : OwnR B w3 v3 (A ++ [r])) (k3 : Same (fun k => v.ownBlock = some k) W w3) (n3 : ∀ k, v3.ownBlock = some k → v.ownBlock = some k ∨ W.heap.size ≤ k) :
    Gw w w3 B lb V L v3 (A ++ [r]) := by
  have g := h.on k
  have hv : v.ownBlock ≠ some lb := fun e => by
    have h1 := (h.all.block e).1
    have h2 := h.lb1
    omega
  refine ⟨g.same.trans k3 fun b _ e => ?_, h.lb0, h.lb1, Nat.le_trans g.sz k3.size, (k3.block lb (lt_of_heap g.tab) hv).trans g.tab, h.len, fun j hj => (g.own j hj).kept k3 fun q hq e2 => h.apA j q hj hq e2, o3, h.ap, fun a q ha e1 e2 => ?_⟩
  · have h1 := (h.all.block e).1
    have := h.lb0
    have := h.lb1
    omega
  · rcases n3 q e2 with h1 | h1
    · exact h.apA a q ha e1 h1
    · have := ((g.own a ha).block e1).2
      omega
theorem Gw.lists {w wr : World} {B lb : Nat} {V : List Value} {L : List (List RwM)} {v : Value} {A : List RwM} (h : Gw w wr B lb V L v A) : ListsAt wr (some ⟨lb, 0, none⟩) L := fun i l hl => by
  have hi : i < L.length := (List.getElem?_eq_some_iff.1 hl).1
  have he : L.getD i [] = l := by rw [List.getD_eq_getElem?_getD, hl]; rfl
  obtain ⟨x, c, e1, e2, -⟩ := (h.own i hi).rows
  obtain ⟨c1, -, c3⟩ := h.cell hi
  rw [e1, he] at c1
  rw [he] at e2
  exact ⟨lb, 0, x, c, rfl, c3, by rw [Nat.zero_add]; exact c1, e2⟩
theorem Gw.start {w wr : World} {n : Nat} (k : Kept w wr) : Gw w (wr.alloc (.cells (List.replicate n nls).toArray 39)) (wr.heap.size + 1) wr.heap.size (List.replicate n nls) (List.replicate n []) nls [] := by
  have hs : (wr.alloc (.cells (List.replicate n nls).toArray 39)).heap.size = wr.heap.size + 1 := World.size_alloc ..
  refine ⟨Kept.to (k.trans' ((Same.refl _ wr).alloc _)) _, k.size, Nat.lt_succ_self _, Nat.le_of_eq hs.symm, heap_new wr _, by simp, fun i hi => ?_, OwnR.nil _ _, fun i j q hi _ _ e => ?_, fun i q hi e => ?_⟩
  all_goals rw [List.length_replicate] at hi
  · rw [List.getD_eq_getElem?_getD, List.getElem?_replicate, if_pos hi, List.getD_eq_getElem?_getD, List.getElem?_replicate, if_pos hi]
    exact OwnR.nil _ _
  · rw [List.getD_eq_getElem?_getD, List.getElem?_replicate, if_pos hi] at e
    cases e
  · rw [List.getD_eq_getElem?_getD, List.getElem?_replicate, if_pos hi] at e
    cases e
/-- Rows that rise in time, all of them right and ahead of q. -/
structure Asc (q : Nat) (l : List RwM) : Prop where
  pw : l.Pairwise fun a b => bef 1 a b = true
  all : ∀ x ∈ l, rightR x ∧ x.time < (q : Int)
theorem Asc.mono {q p : Nat} {l : List RwM} (h : Asc q l) (hq : q ≤ p) : Asc p l := ⟨h.pw, fun x hx => ⟨(h.all x hx).1, by have := (h.all x hx).2; omega⟩⟩
theorem Asc.app {q : Nat} {l : List RwM} (h : Asc q l) {r : RwM} (hr : rightR r) (ht : r.time = (q : Int)) : Asc (q + 1) (l ++ [r]) := by
  refine ⟨List.pairwise_append.2 ⟨h.pw, List.pairwise_singleton .., fun a ha b hb => ?_⟩, fun x hx => ?_⟩
  · rw [List.mem_singleton] at hb
    subst hb
    rw [bef_iff]
    exact ⟨.inl rfl, .inl (by rw [ht]; exact (h.all a ha).2)⟩
  · rcases List.mem_append.1 hx with hx | hx
    · exact (h.mono (Nat.le_succ q)).all x hx
    · rw [List.mem_singleton] at hx
      subst hx
      exact ⟨hr, by omega⟩
theorem Asc.look {q : Nat} {l : List RwM} (h : Asc q l) : lookF 1 none l = 0 :=
  lookF_of l none (fun x hx => (h.all x hx).1) (h.pw.imp fun e => (bef_swo 1).asym e) fun p e => by cases e
theorem perm_set {A : List RwM} {L : List (List RwM)} (h : A.Perm L.flatten) {i : Nat} (hi : i < L.length) (r : RwM) : (A ++ [r]).Perm (L.set i (L.getD i [] ++ [r])).flatten := by
  obtain ⟨e1, e2⟩ := split_at hi (L.getD i [] ++ [r])
  rw [e2]
  rw [e1] at h
  refine (h.append_right [r]).trans ?_
  simp only [List.append_assoc]
  exact (List.perm_append_comm.append_left _).append_left _
end Go.Proofs.Ytolaeiagfnhllaa
