/- What is proved: Close of a writer; the writer, its device and its space lie in memory, and the writer's numbers fit one another. -/
import Derived.Test.YtpjkmficpedmcaaSWrite
import Derived.Lib.AppendZerosOnto
namespace Go.Proofs.Ytpjkmficpedmcaa
open Go.RowKit

section
variable {o : Nat → Nat} {t : Nat} {w : World} {p : Pl} {sp wb : Nat} {s : WrS}
/-- What Close makes of a writer: the block that is begun is filled up and written. -/
def WrS.fill (s : WrS) : Int × WrS :=
  if s.bg = [] then (0, s) else ({ s with bg := s.bg ++ List.replicate (s.m.B - s.bg.length) 0 } : WrS).flush
/-- A file's value and its row. -/
def CloseP (o : Nat → Nat) (t : Nat) (w : World) (p : Pl) (sp wb : Nat) (s : WrS) (x : Ending) (w' : World) : Prop :=
  (s.fill.1 ≠ 0 ∧ x = .returned (.tuple #[fileV none 0 0 0, .int .i64 s.fill.1]) ∧ Leaves o t w p sp wb s.fill.2 false w') ∨
  (s.fill.1 = 0 ∧ ∃ o' a c, x = .returned (.tuple #[fileV a s.fill.2.bl.length c s.sz, .int .i64 0]) ∧ Step (Wt t) o w o' w' ∧ OwnI 0 w' (.slice a s.fill.2.bl.length c) s.fill.2.bl ∧ (∀ k, (Value.slice a s.fill.2.bl.length c).ownBlock = some k → o' k = t ∧ k ≠ wb) ∧
    WrT o' t w' p sp wb { s.fill.2 with bl := [], bg := [] } true (.slice none 0 0) (.slice none 0 0))
theorem fileZ (w : World) : (zeroValue 39).run Try.prog w = .ok (.agg #[.slice none 0 0, .int .i64 0]) w := by kernel_rfl

theorem zeros_byt (n : Nat) : Builtin.zeroCells (Value.int .u8 0).cells n = (byt (List.replicate n 0)).toArray := by
  apply Array.ext'
  apply List.ext_getElem?
  intro k
  have hz : (Value.int IntKind.u8 0).cells = #[.int .u8 0] := rfl
  rw [hz]
  by_cases hk : k < n
  · simp [Builtin.zeroCells, byt, hk, Nat.mod_one]
  · rw [List.getElem?_eq_none (by simp [Builtin.zeroCells]; omega), List.getElem?_eq_none (by simp [byt]; omega)]
/-- append(s, make([]byte, z)...) onto a row of one's own. -/
theorem app_zeros8 {v : Value} {xs : List Int} {z : Nat} (hown : OwnB8 0 w v xs) (hp : 0 < xs.length) (hz : xs.length + z ≤ 1024) (h0 : 0 < z) (ty : TypeId) :
    ∃ v' w', (Builtin.append_ #[22, 3] ty #[v, .int .i64 (z : Int)]).run Try.prog w = .ok v' w' ∧ AppB 0 v w (xs ++ List.replicate z 0) v' w' := by
  obtain ⟨i0, hi0, hz0, hz1, hz2⟩ := info_parts Try.infoByte
  rcases hown.2 with ⟨rfl, hn⟩ | ⟨g, cap, cur, rfl, hb, hg, h1, h2, h3, h4⟩
  · omega
  · have hxz : (xs ++ List.replicate z 0).length = xs.length + z := by simp
    rw [Nat.mul_one] at h3 h4
    by_cases hr : xs.length + z ≤ cap
    · have hw : IntKind.i64.wrap (z : Int) = z := by rw [IntKind.wrap_i64]; omega
      have hst := run_storeCells_at Try.prog g xs.length 5 (byt (List.replicate z 0)) 0 cur w hg (by rw [length_byt, List.length_replicate]; omega) (byt_one _)
      have hneg : ¬ ((z : Int) < 0) := by omega
      have hz' : ¬ z = 0 := by omega
      have hbig : ¬ (281474976710656 < (z : Int)) := by omega
      refine ⟨.slice (some ⟨g, 0, none⟩) (xs.length + z) cap, w.setRow g (cur.toList.take xs.length ++ (byt (List.replicate z 0) ++ cur.toList.drop (xs.length + (byt (List.replicate z 0)).length))).toArray, ?_, ?_, ?_, .inl rfl⟩
      · simp only [Nat.add_zero, List.append_assoc] at hst
        simp [Addr.add_lit, Builtin.append_, run_underlying Try.underlying22, run_underlying Try.underlying3, sizeOf, typeInfo, zeroValue, hi0, hz0, hz1, hz2, asInt, asIntOf, hw, hr, hneg, hz', hbig, Question.forced, zeros_byt, hst]
      · refine ⟨by simp [byt], .inr ⟨g, cap, _, by rw [hxz], hb, setRow_heap w g _ _ 5 _ hg, by rw [hxz]; exact hr, h2, ?_, ?_⟩⟩
        · simp [byt]
          omega
        · rw [hxz, Nat.mul_one]
          simp only [byt_append]
          rw [← List.append_assoc, List.take_append_of_le_length (by simp [byt]; omega), List.take_of_length_le (by simp [byt]; omega), h4]
      · exact ⟨rfl, rfl, rfl, by simp [World.setRow], fun k _ hk => setRow_other w g k _ (fun e => hk (by rw [e]; rfl))⟩
    · have hrun := Lib.run_append_grow_zeros (P := Try.prog) w 22 3 ty 5 i0 _ .i64 .i64 Try.underlying22 Try.underlying3 hi0 hz0 (some ⟨g, 0, none⟩) xs.length cap (byt xs)
        (run_firstCells_some (P := Try.prog) w.drew i0.size xs.length ⟨g, 0, none⟩ xs.length cap (byt xs) (by rw [hz1, length_byt, Nat.mul_one]) (fun j u hu => by
          have hj := (List.getElem?_eq_some_iff.1 hu).1
          rw [length_byt] at hj
          rw [← h4, List.getElem?_take_of_lt hj] at hu
          rw [Addr.add_lit, show w.drew.cell? ⟨g, 0 + j, none⟩ = w.cell? ⟨g, 0 + j, none⟩ from rfl, cell_of hg, Nat.zero_add]
          simpa using hu)) z h0 (by rw [hz1]; decide) (by omega) (by omega) (by rw [hz2]; omega) (by rw [hz2]; exact growslice_fits (by omega) (by omega))
      have hge := grownCap_ge w (xs.length + z) cap 5
      have k1 : Kept w (w.drew.alloc (.cells ((byt xs).toArray ++ Builtin.zeroCells (Value.int .u8 0).cells z ++ Builtin.zeroCells (Value.int .u8 0).cells (grownCap w (xs.length + z) cap 5 - (xs.length + z))) 5)) := ((Same.refl _ w).drew).alloc _
      refine ⟨_, _, hrun, ⟨by simp [byt], .inr ⟨w.heap.size, grownCap w (xs.length + z) cap 5, _, by rw [hxz], Nat.zero_le _, heap_new w.drew _, by rw [hxz]; exact hge, grownCap_le_maxLen _ _ _ _ (by unfold maxLen; omega), ?_, ?_⟩⟩, ⟨k1.os, k1.tape, k1.output, k1.size, fun k hk _ => k1.block k hk (fun h => h)⟩, .inr rfl⟩
      · rw [zeros_byt, zeros_byt]
        simp [byt]
        omega
      · rw [zeros_byt, zeros_byt, hxz, Nat.mul_one, Array.toList_append, Array.toList_append]
        simp only
        rw [List.take_append_of_le_length (by simp [byt]), List.take_of_length_le (by simp [byt]), byt_append]
theorem step_app2 {P : Program} {ops : Array Oper} {o : Oper} {a : Act} {w : World} {K : Act → World → Prop} {Q : Exit → Act → World → Prop} {E : Prop} (hg : o.guard = none) (s x : Operand) (t t' : TypeId)
    (ho : o.op = .call { callee := .builtin .append, args := #[s, x], argTypes := #[t, t'] }) (vs vx : Value) (hs : a.eval s = vs) (hx : a.eval x = vx) (R : Value → World → Prop)
    (hrun : ∀ ty, ∃ v' w', (Builtin.append_ #[t, t'] ty #[vs, vx]).run P w = .ok v' w' ∧ R v' w') (h : ∀ v' w', R v' w' → K (a.put o.dst v') w') : if Region.wanted o (yielded ops a.tmps) = true then Oper.wp P o a w K Q else E := by
  have hw : Region.wanted o (yielded ops a.tmps) = true := by simp [Region.wanted, hg]
  rw [if_pos hw]
  obtain ⟨v', w', hr, hR⟩ := hrun o.type
  unfold Oper.wp
  simp only [execOp, ho, resolve, invoke, builtin, Sem.run_bind, Sem.run_pure, Result.andThen_ok, List.map_toArray, List.map_cons, List.map_nil, hs, hx, hr]
  exact h v' w' hR
theorem loadVar_file {w : World} {b : Nat} {v : Value} {n : Int} (h : w.heap[b]? = some (.cells #[v, .int .i64 n] 39 (0, 0))) : (loadVar 39 ⟨b, 0, none⟩).run Try.prog w = .ok (.agg #[v, .int .i64 n]) w := by
  have c0 : w.cell? ⟨b, 0, none⟩ = some v := (cell_of h 0).trans rfl
  have c1 : w.cell? ⟨b, 1, none⟩ = some (.int .i64 n) := (cell_of h 1).trans rfl
  clear h
  go_simp
/-- The row of a block that is begun has grown. -/
theorem grow_done {cl : Bool} {bv gv : Value} {wx w3 : World} {v3 : Value} {l : List Int} (h : WrT o t w p sp wb s cl bv gv) (ht : Tg t) (kx : Kept w wx) (hap : AppB 0 gv wx (s.bg ++ l) v3 w3) :
    w3.heap[wb]? = some (wrO p sp bv gv s.sz cl s.br) ∧ ∃ o', Step (Wt t) o w o' (w3.setCell ⟨wb, 3, none⟩ v3) ∧ WrT o' t (w3.setCell ⟨wb, 3, none⟩ v3) p sp wb { s with bg := s.bg ++ l } cl bv v3 := by
  obtain ⟨p1, p2, p3⟩ := hap
  have hx := h.kept kx
  have a2 := hx.wtr
  have s3 : Same (fun k => gv.ownBlock = some k) wx w3 := Same.of_grown p2 (fun k e => e)
  have st3 : Step (fun n => n = t) o wx (tagN wx t o) w3 := ⟨s3.mono fun k _ e => a2.gtag k e, fun k hk => tagN_old hk⟩
  have hl2 := lt_of_heap a2.obj
  have htg : tagN wx t o wb = t := (tagN_old hl2).trans a2.tag
  have ho3 : w3.heap[wb]? = some (wrO p sp bv gv s.sz cl s.br) := (s3.block wb hl2 fun e => (a2.ne.2 wb e).1 rfl).trans a2.obj
  refine ⟨ho3, ?_⟩
  have s4 : Same (fun k => k = wb) w3 (w3.setCell ⟨wb, 3, none⟩ v3) := Same.setCell (S := fun k => k = wb) (Same.refl _ w3) _ (.inr rfl) _
  have st4 : Step (fun n => n = t) (tagN wx t o) w3 (tagN wx t o) (w3.setCell ⟨wb, 3, none⟩ v3) := ⟨s4.mono fun k _ e => (by show tagN wx t o k = t; rw [e]; exact htg), fun _ _ => rfl⟩
  have n0 : ¬ ((0 : Nat) = t) := fun e => ht.n0 e.symm
  have n1 : ¬ ((1 : Nat) = t) := fun e => ht.n1 e.symm
  have n2 : ¬ ((2 : Nat) = t) := fun e => ht.n2 e.symm
  refine ⟨tagN wx t o, ((Step.kept kx).trans (st3.mono fun n e => .inr (.inr e))).trans (st4.mono fun n e => .inr (.inr e)), (hx.dv.on st3 n0 n1).on st4 n0 n1, (hx.spc.on st3 n2).on st4 n2, ?_⟩
  refine ⟨setCell_at ho3 3 _, htg, own_kept (own_kept a2.brow s3 fun k hk e => (a2.ne.1 k hk).2 e) s4 fun k hk e => (a2.ne.1 k hk).1 e, fun k hk => (tagN_old (own_lt a2.brow hk).1).trans (a2.btag k hk), own_kept p1 s4 fun k hk e => ?_, fun k hk => ?_⟩
  · obtain ⟨-, cur, h1⟩ := own_lt p1 hk
    rw [e, ho3] at h1
    simp [wrO] at h1
  · rcases p3 with e | e
    · rw [e] at hk
      exact (tagN_old (own_lt a2.grow hk).1).trans (a2.gtag k hk)
    · rw [e] at hk
      cases hk
      exact tagN_new (Nat.le_refl _)
/-- The file is told, and the writer closed. -/
theorem close_fin {W : World} {oW : Nat → Nat} {gv : Value} {a : Option Addr} {c rb : Nat} {s' : WrS} (h : WrT oW t W p sp wb s' false (.slice a s'.bl.length c) gv) (ht : Tg t) (hst : Step (Wt t) o w oW W) (hrb : W.heap[rb]? = some (.cells #[.slice none 0 0, .int .i64 0] 39 (0, 0))) (hrw : w.heap.size ≤ rb) (F : Obj) (W' : World)
    (eW : W' = ((((((W.alloc F).drew.setCell ⟨wb, 2, none⟩ (.slice none 0 0)).setCell ⟨wb, 3, none⟩ (.slice none 0 0)).setCell ⟨wb, 5, none⟩ (.bool true)).setCell ⟨rb, 0, none⟩ (.slice a s'.bl.length c)).setCell ⟨rb, 1, none⟩ (.int .i64 s'.sz))) :
    W'.heap[rb]? = some (.cells #[.slice a s'.bl.length c, .int .i64 s'.sz] 39 (0, 0)) ∧ ∃ o', Step (Wt t) o w o' W' ∧ OwnI 0 W' (.slice a s'.bl.length c) s'.bl ∧ (∀ k, (Value.slice a s'.bl.length c).ownBlock = some k → o' k = t ∧ k ≠ wb) ∧ WrT o' t W' p sp wb { s' with bl := [], bg := [] } true (.slice none 0 0) (.slice none 0 0) := by
  have kA : Kept W (W.alloc F).drew := ((Same.refl _ W).alloc F).drew
  have hA := h.kept kA
  have hlr := lt_of_heap hrb
  have hne : rb ≠ wb := fun e => by
    rw [e, h.wtr.obj] at hrb
    simp [wrO] at hrb
  have hrbA : (W.alloc F).drew.heap[rb]? = some (.cells #[.slice none 0 0, .int .i64 0] 39 (0, 0)) := (kA.block rb hlr (fun h => h)).trans hrb
  obtain ⟨WB, eB⟩ : ∃ WB, WB = (((W.alloc F).drew.setCell ⟨wb, 2, none⟩ (.slice none 0 0)).setCell ⟨wb, 3, none⟩ (.slice none 0 0)).setCell ⟨wb, 5, none⟩ (.bool true) := ⟨_, rfl⟩
  have sB : Same (fun k => k = wb) (W.alloc F).drew WB := by
    rw [eB]
    exact Same.setCell (Same.setCell (Same.setCell (S := fun k => k = wb) (Same.refl _ _) _ (.inr rfl) _) _ (.inr rfl) _) _ (.inr rfl) _
  have hoB : WB.heap[wb]? = some (wrO p sp (.slice none 0 0) (.slice none 0 0) s'.sz true s'.br) := by
    rw [eB]
    exact setCell_at (setCell_at (setCell_at hA.wtr.obj 2 _) 3 _) 5 _
  have hrbB : WB.heap[rb]? = some (.cells #[.slice none 0 0, .int .i64 0] 39 (0, 0)) := (sB.block rb (lt_of_heap hrbA) hne).trans hrbA
  rw [← eB] at eW
  have sC : Same (fun k => k = rb) WB W' := by
    rw [eW]
    exact Same.setCell (Same.setCell (S := fun k => k = rb) (Same.refl _ _) _ (.inr rfl) _) _ (.inr rfl) _
  have hrbC : W'.heap[rb]? = some (.cells #[.slice a s'.bl.length c, .int .i64 s'.sz] 39 (0, 0)) := by
    rw [eW]
    exact setCell_at (setCell_at hrbB 0 _) 1 _
  have stB : Step (fun n => n = t) oW (W.alloc F).drew oW WB := ⟨sB.mono fun k _ e => (by show oW k = t; rw [e]; exact h.wtr.tag), fun _ _ => rfl⟩
  have n0 : ¬ ((0 : Nat) = t) := fun e => ht.n0 e.symm
  have n1 : ¬ ((1 : Nat) = t) := fun e => ht.n1 e.symm
  have n2 : ¬ ((2 : Nat) = t) := fun e => ht.n2 e.symm
  have hbB : ∀ k, (Value.slice a s'.bl.length c).ownBlock = some k → k ≠ wb ∧ k ≠ rb := fun k hk => by
    refine ⟨(hA.wtr.ne.1 k hk).1, fun e => ?_⟩
    obtain ⟨-, cur, h1⟩ := own_lt hA.wtr.brow hk
    rw [e, hrbA] at h1
    simp at h1
  have hbr : OwnI 0 W' (.slice a s'.bl.length c) s'.bl := own_kept (own_kept hA.wtr.brow sB fun k hk e => (hbB k hk).1 e) sC fun k hk e => (hbB k hk).2 e
  -- rb gets a tag of its own, for nothing else lies there
  have kk : ∀ (X : Nat → Prop), (∀ k, X k → k ≠ rb) → Same (fun k => ¬ X k) WB W' := fun X hX => sC.mono fun k _ e hx => hX k hx e
  obtain ⟨o', eo⟩ : ∃ o' : Nat → Nat, o' = fun k => if k = rb then t + 3 else oW k := ⟨_, rfl⟩
  have eo1 : ∀ k, k ≠ rb → o' k = oW k := fun k hk => by rw [eo]; exact if_neg hk
  have dvB := (hA.dv.on stB n0 n1)
  have spB := (hA.spc.on stB n2)
  refine ⟨hrbC, o', ⟨?_, fun k hk => ?_⟩, hbr, fun k hk => ⟨?_, (hbB k hk).1⟩, ?_, ?_, ?_⟩
  · refine (hst.same.trans ((Kept.to kA _).trans' (sB.mono fun k _ e => (by show Wt t (oW k); rw [e]; exact .inr (.inr h.wtr.tag)))) (fun i hi e => by rw [← hst.tag i hi]; exact e)).trans sC fun i hi e => ?_
    subst e
    omega
  · rw [eo1 k (by omega)]
    exact hst.tag k hk
  · rw [eo1 k (hbB k hk).2]
    exact h.wtr.btag k hk
  · have hnr : ∀ k, Foot s'.m p k → k ≠ rb := fun k hk e => by
      subst e
      rcases hk with (hk | hk | hk) | hk | hk
      · have := dvB.dv.dev
        rw [← hk, hrbB] at this
        simp [devObj] at this
      · have := dvB.dv.scr
        rw [← hk, hrbB] at this
        simp [rowObj] at this
      · obtain ⟨es, c', hm⟩ := dvB.dv.map.is
        rw [← hk, hrbB] at hm
        cases hm
      · obtain ⟨h0, off, e'⟩ := hk
        obtain ⟨b', off', e'', hb', hcell⟩ := dvB.dv.inp 0 _ (List.getElem?_eq_getElem h0)
        rw [e'] at e''
        cases e''
        rw [cell_of hrbB] at hcell
        rcases (show off + 0 = 0 ∨ off + 0 = 1 ∨ 2 ≤ off + 0 by omega) with z | z | z
        · rw [z] at hcell; simp at hcell
        · rw [z] at hcell; simp at hcell
        · rw [Array.getElem?_eq_none (by simpa using z)] at hcell; cases hcell
      · obtain ⟨h0, off, e'⟩ := hk
        obtain ⟨b', off', e'', hb', hcell, hc1, -⟩ := dvB.dv.flt 0 _ (List.getElem?_eq_getElem h0)
        rw [e'] at e''
        cases e''
        rw [cell_of hrbB] at hcell hc1
        rcases (show off = 0 ∨ 1 ≤ off by omega) with z | z
        · rw [z] at hcell; simp at hcell
        · rcases (show off = 1 ∨ 2 ≤ off by omega) with z | z
          · rw [z, Array.getElem?_eq_none (by simp)] at hc1; cases hc1
          · rw [Array.getElem?_eq_none (by simp; omega)] at hcell; cases hcell
    refine ⟨dvB.dv.kept sC fun k hk e => hnr k hk e, fun k hk => ?_, fun k hk => ?_, fun k hk => ?_⟩
    · rw [eo1 k (hnr k (.inl hk))]; exact dvB.own k hk
    · rw [eo1 k (hnr k (.inr (.inl hk)))]; exact dvB.inp k hk
    · rw [eo1 k (hnr k (.inr (.inr hk)))]; exact dvB.flt k hk
  · obtain ⟨L, a2, hb2, c2, q1, q2, q3, q4⟩ := spB
    have hn1 : sp ≠ rb := fun e => by
      have := q1.obj
      rw [e, hrbB] at this
      simp [spO] at this
    have hn2 : hb2 ≠ rb := fun e => by
      rcases q1.row with ⟨_, _, _, _, e2⟩ | ⟨_, A, e2, _⟩
      · exact hn1 (e2 ▸ e)
      · unfold Blk at e2
        rw [e, hrbB] at e2
        simp at e2
    exact ⟨L, a2, hb2, c2, q1.kept sC hn1 hn2, (eo1 _ hn2).trans q2, (eo1 _ hn1).trans q3, q4⟩
  · exact ⟨(sC.block wb (lt_of_heap hoB) fun e => hne e.symm).trans hoB, (eo1 wb fun e => hne e.symm).trans h.wtr.tag, World.ownsRow_nil _ 0 3 1, (fun k e => by cases e), World.ownsRow_nil _ 0 5 1, (fun k e => by cases e)⟩
end
end Go.Proofs.Ytpjkmficpedmcaa
