/- What is proved: fail and flush of a writer; the writer, its device and its space lie in memory. -/
import Derived.Test.YtpjkmficpedmcaaSWtr
namespace Go.Proofs.Ytpjkmficpedmcaa
open Go.RowKit

theorem write_keeps (m : M) (b : Int) (d : List Int) : (m.write b d).2.inp = m.inp ∧ (m.write b d).2.F = m.F ∧ (m.write b d).2.B = m.B ∧ (m.write b d).2.S = m.S ∧ (m.write b d).2.k ≤ m.k + 2 := by
  unfold M.write
  split
  · exact ⟨rfl, rfl, rfl, rfl, Nat.le_add_right _ _⟩
  · split
    · exact ⟨rfl, rfl, rfl, rfl, Nat.le_add_right _ _⟩
    · split
      · exact ⟨rfl, rfl, rfl, rfl, Nat.le_add_right _ _⟩
      · split
        · exact ⟨rfl, rfl, rfl, rfl, Nat.le_refl _⟩
        · split
          · exact ⟨rfl, rfl, rfl, rfl, Nat.le_refl _⟩
          · exact ⟨rfl, rfl, rfl, rfl, Nat.le_succ _⟩
section
variable {o : Nat → Nat} {t : Nat} {w : World} {p : Pl} {sp wb : Nat} {s : WrS} {cl : Bool} {bv gv : Value}
/-- What a writer's call leaves. -/
def Leaves (o : Nat → Nat) (t : Nat) (w : World) (p : Pl) (sp wb : Nat) (s : WrS) (cl : Bool) (w' : World) : Prop := ∃ o' bv gv, Step (Wt t) o w o' w' ∧ WrT o' t w' p sp wb s cl bv gv
theorem Leaves.after {o1 : Nat → Nat} {w1 w' : World} {s' : WrS} (h : Step (Wt t) o w o1 w1) (h' : Leaves o1 t w1 p sp wb s' cl w') : Leaves o t w p sp wb s' cl w' := by
  obtain ⟨o', bv, gv, h1, h2⟩ := h'
  exact ⟨o', bv, gv, h.trans h1, h2⟩
structure Tg (t : Nat) : Prop where
  n0 : t ≠ 0
  n1 : t ≠ 1
  n2 : t ≠ 2
/-- The blocks of a file are numbers of a space. -/
structure Bl (l : List Int) : Prop where
  mem : ∀ b ∈ l, 0 ≤ b ∧ b < 4096
  len : l.length < 1099511627776

set_option maxRecDepth 100000 in
set_option maxHeartbeats 1600000 in
theorem fail_any (h : WrT o t w p sp wb s cl bv gv) (ht : Tg t) (hb : Bl s.bl) (e : Int) : Calls Try.prog 30 #[.pointer (some ⟨wb, 0, none⟩), .int .i64 e] w fun x w' => x = .returned (.int .i64 e) ∧ Leaves o t w p sp wb (s.fail e) cl w' := by
  have hl := lt_of_heap h.wtr.obj
  have c1 : w.cell? ⟨wb, 1, none⟩ = some (.pointer (some ⟨sp, 0, none⟩)) := (cell_of h.wtr.obj 1).trans rfl
  obtain ⟨ba, bc, eb, hnm, -, -, hbk⟩ := OwnI.nums h.wtr.brow
  have c2 : w.cell? ⟨wb, 2, none⟩ = some (.slice ba s.bl.length bc) := by rw [← eb]; exact (cell_of h.wtr.obj 2).trans rfl
  have HD : Hid (∀ W, Kept w W → Calls Try.prog 34 #[.pointer (some ⟨sp, 0, none⟩), .agg #[.slice ba s.bl.length bc, .int .i64 0]] W fun x w1 => ∃ z : Int, x = .returned (.int .i64 z) ∧ w1.heap[wb]? = some (wrO p sp bv gv s.sz cl s.br) ∧ ∃ o1, SpT o1 w1 sp (drops s.bl s.u).2 ∧ Step (fun n => n = 2) o w o1 w1) := fun W k => by
    have hk := h.kept k
    refine Calls.mono (drop_any hk.spc ba bc 0 s.bl (hnm.kept k (fun _ _ h => h)) (fun k' hk' e' => ?_) (by have := hb.len; omega) (fun b hb' => by have := hb.mem b hb'; omega)) ?_
    · have := h.wtr.btag k' (hbk k' hk')
      exact ht.n2 (this.symm.trans e')
    · rintro x w1 ⟨rfl, o1, q1, q2⟩
      exact ⟨_, rfl, (q2.same.block wb (lt_of_heap hk.wtr.obj) (by rw [h.wtr.tag]; exact ht.n2)).trans hk.wtr.obj, o1, q1, (Step.kept k).trans q2⟩
  have HF : Hid (∀ w1 o1, w1.heap[wb]? = some (wrO p sp bv gv s.sz cl s.br) → SpT o1 w1 sp (drops s.bl s.u).2 → Step (fun n => n = 2) o w o1 w1 → Leaves o t w p sp wb (s.fail e) cl ((((w1.setCell ⟨wb, 2, none⟩ (.slice none 0 0)).setCell ⟨wb, 3, none⟩ (.slice none 0 0)).setCell ⟨wb, 4, none⟩ (.int .i64 0)).setCell ⟨wb, 6, none⟩ (.int .i64 e))) := fun w1 o1 ho hs st => by
    have s4 : Same (fun k => k = wb) w1 ((((w1.setCell ⟨wb, 2, none⟩ (.slice none 0 0)).setCell ⟨wb, 3, none⟩ (.slice none 0 0)).setCell ⟨wb, 4, none⟩ (.int .i64 0)).setCell ⟨wb, 6, none⟩ (.int .i64 e)) :=
      Same.setCell (Same.setCell (Same.setCell (Same.setCell (S := fun k => k = wb) (Same.refl _ w1) _ (.inr rfl) _) _ (.inr rfl) _) _ (.inr rfl) _) _ (.inr rfl) _
    have htg : o1 wb = t := (st.tag wb hl).trans h.wtr.tag
    have st4 : Step (fun n => n = t) o1 w1 o1 _ := ⟨s4.mono fun k _ e' => (by show o1 k = t; rw [e']; exact htg), fun _ _ => rfl⟩
    refine ⟨o1, .slice none 0 0, .slice none 0 0, (st.mono fun n e' => .inr (.inl e')).trans (st4.mono fun n e' => .inr (.inr e')), ?_, ?_, ?_⟩
    · exact (h.dv.on st (by decide) (by decide)).on st4 (fun e' => ht.n0 e'.symm) (fun e' => ht.n1 e'.symm)
    · exact hs.on st4 (fun e' => ht.n2 e'.symm)
    · exact ⟨setCell_at (setCell_at (setCell_at (setCell_at ho 2 _) 3 _) 4 _) 6 _, htg, World.ownsRow_nil _ 0 3 1, (fun k e' => by cases e'), World.ownsRow_nil _ 0 5 1, (fun k e' => by cases e')⟩
  clear h hb hnm hbk eb
  go_enter Try.func30, Try.ntmps30
  go_wp2_with fail
  go_region_with (go_at_call 34; refine Calls.mono (HD.out _ (by (repeat (first | exact Same.refl _ _ | apply Same.alloc | apply Same.drew)); done)) ?_; rintro x w1 ⟨z, rfl, ho1, o1, q1, q2⟩; have Q : Hid _ := And.intro ho1 (And.intro q1 q2); clear q1 q2)
  all_goals
    have hl1 := lt_of_heap ho1
    obtain ⟨y2, y3, y4, y6⟩ : w1.cell? ⟨wb, 2, none⟩ = some bv ∧ w1.cell? ⟨wb, 3, none⟩ = some gv ∧ w1.cell? ⟨wb, 4, none⟩ = some (.int .i64 s.sz) ∧ w1.cell? ⟨wb, 6, none⟩ = some (.int .i64 s.br) := ⟨(cell_of ho1 2).trans rfl, (cell_of ho1 3).trans rfl, (cell_of ho1 4).trans rfl, (cell_of ho1 6).trans rfl⟩
    have f2 := frozen_of ho1 2
    have f3 := frozen_of ho1 3
    have f4 := frozen_of ho1 4
    have f6 := frozen_of ho1 6
    clear ho1
    go_wp2_with fail
    go_ret
    obtain ⟨ho, q1, q2⟩ := Q.out
    exact ⟨rfl, HF.out w1 o1 ho q1 q2⟩

theorem own_blk (a : Option Addr) (n c n' c' : Nat) : (Value.slice a n c).ownBlock = (Value.slice a n' c').ownBlock := by cases a <;> rfl
theorem own_zero {base n : Nat} {e : TypeId} {a : Option Addr} {m c : Nat} {l : List Value} (h : w.ownsRow base e 1 (.slice a m c) n l) : w.ownsRow base e 1 (.slice a 0 c) 0 [] := by
  refine ⟨rfl, ?_⟩
  rcases h.2 with ⟨h2, h3⟩ | ⟨g, cap, cur, e', hb, hg, h1, h2, h3, h4⟩
  · simp only [Value.slice.injEq] at h2
    obtain ⟨rfl, -, rfl⟩ := h2
    exact .inl ⟨rfl, rfl⟩
  · simp only [Value.slice.injEq] at e'
    obtain ⟨rfl, -, rfl⟩ := e'
    exact .inr ⟨g, c, cur, rfl, hb, hg, Nat.zero_le _, h2, h3, rfl⟩

set_option maxRecDepth 100000 in
set_option maxHeartbeats 1600000 in
theorem flush_any (h : WrT o t w p sp wb s cl bv gv) (ht : Tg t) (hb : Bl s.bl) (hne : s.bl ≠ []) (hk : s.m.k + 1 < 4611686018427387904) : Calls Try.prog 21 #[.pointer (some ⟨wb, 0, none⟩)] w fun x w' => x = .returned (.int .i64 s.flush.1) ∧ Leaves o t w p sp wb s.flush.2 cl w' := by
  have hl := lt_of_heap h.wtr.obj
  have c0 : w.cell? ⟨wb, 0, none⟩ = some (.pointer (some ⟨p.db, 0, none⟩)) := (cell_of h.wtr.obj 0).trans rfl
  obtain ⟨ba, bc, eb, hnm, -, -, hbk⟩ := OwnI.nums h.wtr.brow
  have c2 : w.cell? ⟨wb, 2, none⟩ = some (.slice ba s.bl.length bc) := by rw [← eb]; exact (cell_of h.wtr.obj 2).trans rfl
  obtain ⟨ga, gc, eg, hgb, hgk⟩ := BytesAt.of_row h.wtr.grow
  have c3 : w.cell? ⟨wb, 3, none⟩ = some (.slice ga s.bg.length gc) := by rw [← eg]; exact (cell_of h.wtr.obj 3).trans rfl
  have hpos := List.length_pos_iff.2 hne
  obtain ⟨b, hbl⟩ : ∃ b, s.bl[s.bl.length - 1]? = some b := ⟨_, List.getElem?_eq_getElem (by omega)⟩
  have ebl : s.bl.getLastD 0 = b := by
    rw [List.getLastD_eq_getLast?, List.getLast?_eq_getElem?, hbl]
    rfl
  obtain ⟨nb, off, ea, hnb, hcell⟩ := hnm _ _ hbl
  obtain ⟨n, en⟩ : ∃ n, n = s.bl.length - 1 := ⟨_, rfl⟩
  obtain ⟨N, eN⟩ : ∃ N, N = s.bl.length := ⟨_, rfl⟩
  have hN1 : (N : Int) - 1 = (n : Int) := by omega
  have hN2 : n < N := by omega
  have hN3 : (n : Int) < (N : Int) := by omega
  have hN4 : N ≤ 1099511627776 := by have := hb.len; omega
  have hwr : IntKind.i64.wrap (n : Int) = (n : Int) := by rw [IntKind.wrap_i64]; omega
  rw [← en] at hcell
  rw [← eN] at c2
  have hgrow : w.ownsRow 0 5 1 (.slice ga s.bg.length gc) s.bg.length (byt s.bg) := by rw [← eg]; exact h.wtr.grow
  have hgcap := row_caps hgrow
  have hgtag : ∀ k, (Value.slice ga s.bg.length gc).ownBlock = some k → o k = t := by rw [← eg]; exact h.wtr.gtag
  have hginb : ∀ k, InB ga s.bg.length k → o k = t := fun k hk' => by
    obtain ⟨_, off', e'⟩ := hk'
    exact hgtag k (by rw [e']; rfl)
  obtain ⟨k1, k2, k3, k4, k5⟩ := write_keeps s.m b s.bg
  obtain ⟨cd, ecd⟩ : ∃ cd, cd = (s.m.write b s.bg).1 := ⟨_, rfl⟩
  have HW : Hid (∀ W, Kept w W → Calls Try.prog 31 #[.pointer (some ⟨p.db, 0, none⟩), .int .i64 b, .slice ga s.bg.length gc] W fun x w1 => x = .returned (.int .i64 cd) ∧ (w1.cell? ⟨wb, 0, none⟩ = some (.pointer (some ⟨p.db, 0, none⟩)) ∧ w1.cell? ⟨wb, 2, none⟩ = some (.slice ba N bc) ∧ w1.cell? ⟨wb, 3, none⟩ = some (.slice ga s.bg.length gc) ∧ w1.cell? ⟨nb, off + n, none⟩ = some (.int .i64 b)) ∧ ∃ o1, Step (fun n => n = 1) o w o1 w1 ∧ WrT o1 t w1 p sp wb { s with m := (s.m.write b s.bg).2 } cl bv gv) := fun W k => by
    have hk' := h.kept k
    refine Calls.mono (write_any hk'.dv.dv b ga gc s.bg (hgb.kept k (fun _ _ h => h)) hgcap.1 (fun k' hi e' => ?_) hk) ?_
    · have h1 := hginb k' hi
      rw [e', h.dv.own p.db (.inl rfl)] at h1
      exact ht.n1 h1.symm
    · rintro x w1 ⟨rfl, q1, q2⟩
      have st : Step (fun n => n = 1) o W (tagN W 1 o) w1 := ⟨q2.mono fun k _ hk' => h.dv.own k hk', fun k hk' => tagN_old hk'⟩
      have hsx := ((Step.kept (S := fun n => n = 1) k).trans st)
      have hx : ∀ j, w1.cell? ⟨wb, j, none⟩ = w.cell? ⟨wb, j, none⟩ := fun j => hsx.same.cell (p := ⟨wb, j, none⟩) hl (by rw [h.wtr.tag]; exact ht.n1)
      have hxn : w1.cell? ⟨nb, off + n, none⟩ = w.cell? ⟨nb, off + n, none⟩ := hsx.same.cell (p := ⟨nb, off + n, none⟩) hnb (by
        have h1 := h.wtr.btag nb (hbk nb ⟨hpos, off, ea⟩)
        rw [h1]
        exact ht.n1)
      exact ⟨by rw [ecd], ⟨(hx 0).trans c0, (hx 2).trans c2, (hx 3).trans c3, hxn.trans hcell⟩, tagN W 1 o, hsx, hk'.dv.turn q1 k1 k2 1, hk'.spc.on st (by decide), hk'.wtr.on st ht.n1⟩
  have hcut : ∀ W, _ := fun W => cut_to (oa := ga) (n := s.bg.length) (c := gc) hgcap.1 hgcap.2 0 (Nat.zero_le _) W
  have HEG : Hid _ := eg
  have efl : s.flush = if cd ≠ 0 then (cd, { s with m := (s.m.write b s.bg).2 }.fail cd) else (0, { s with m := (s.m.write b s.bg).2, bg := [] }) := by
    unfold WrS.flush
    rw [ebl, ← ecd]
  rw [efl]
  subst ea
  have HBL : Hid _ := hb
  have HC : Hid (∀ W, Kept w W → W.cell? ⟨wb, 0, none⟩ = some (.pointer (some ⟨p.db, 0, none⟩)) ∧ W.cell? ⟨wb, 2, none⟩ = some (.slice (some ⟨nb, off, none⟩) N bc) ∧ W.cell? ⟨wb, 3, none⟩ = some (.slice ga s.bg.length gc) ∧ W.cell? ⟨nb, off + n, none⟩ = some (.int .i64 b)) := fun W k =>
    ⟨(k.cell (p := ⟨wb, 0, none⟩) hl (fun h => h)).trans c0, (k.cell (p := ⟨wb, 2, none⟩) hl (fun h => h)).trans c2, (k.cell (p := ⟨wb, 3, none⟩) hl (fun h => h)).trans c3, (k.cell (p := ⟨nb, off + n, none⟩) hnb (fun h => h)).trans hcell⟩
  clear h hb hnm hbk eb eg hgb hgk hbl ebl efl hgrow hgtag hginb ecd en hpos eN
  by_cases he : cd = 0
  · subst he
    go_enter Try.func21, Try.ntmps21
    go_wp2_with fail
    go_region_held3 (fun w' => w'.cell? ⟨wb, 0, none⟩ = some (.pointer (some ⟨p.db, 0, none⟩)) ∧ w'.cell? ⟨wb, 2, none⟩ = some (.slice (some ⟨nb, off, none⟩) N bc) ∧ w'.cell? ⟨wb, 3, none⟩ = some (.slice ga s.bg.length gc) ∧ w'.cell? ⟨nb, off + n, none⟩ = some (.int .i64 b))
      (first | exact q0 | exact HC.out _ (by (repeat (first | exact Same.refl _ _ | apply Same.alloc | apply Same.drew)); done))
      (first | (go_at_call 31; refine Calls.mono (HW.out _ (by (repeat (first | exact Same.refl _ _ | apply Same.alloc | apply Same.drew)); done)) ?_; rintro x w1 ⟨rfl, q0, o1, q1, q2⟩; have Q : Hid _ := And.intro q1 q2; clear q1 q2))
    all_goals
      have ho1 := Q.out.2.wtr.obj
      rw [HEG.out] at ho1
      have hl1 := lt_of_heap ho1
      have y3 : w1.cell? ⟨wb, 3, none⟩ = some (.slice ga s.bg.length gc) := (cell_of ho1 3).trans rfl
      have f3 := frozen_of ho1 3
      clear ho1 q0
      go_wp2_with fail
      go_ret
      have q2 := Q.out.2
      have s3 : Same (fun k => k = wb) w1 (w1.setCell ⟨wb, 3, none⟩ (.slice ga 0 gc)) := Same.setCell (S := fun k => k = wb) (Same.refl _ w1) _ (.inr rfl) _
      have st3 : Step (fun n => n = t) o1 w1 o1 _ := ⟨s3.mono fun k _ e' => (by show o1 k = t; rw [e']; exact q2.wtr.tag), fun _ _ => rfl⟩
      have hown := q2.wtr.grow
      rw [HEG.out] at hown
      refine ⟨by simp, o1, bv, .slice ga 0 gc, (Q.out.1.mono fun n e' => .inl e').trans (st3.mono fun n e' => .inr (.inr e')), ?_⟩
      refine ⟨q2.dv.on st3 (fun e' => ht.n0 e'.symm) (fun e' => ht.n1 e'.symm), q2.spc.on st3 (fun e' => ht.n2 e'.symm), setCell_at q2.wtr.obj 3 _, q2.wtr.tag, own_kept q2.wtr.brow s3 fun k hk' e' => (q2.wtr.ne.1 k hk').1 e', q2.wtr.btag, own_kept (own_zero hown) s3 fun k hk' e' => (q2.wtr.ne.2 k (by rw [HEG.out, own_blk ga _ gc 0 gc]; exact hk')).1 e', fun k hk' => q2.wtr.gtag k (by rw [HEG.out, own_blk ga _ gc 0 gc]; exact hk')⟩
  · have he' : (cd != 0) = true := by simpa using he
    go_enter Try.func21, Try.ntmps21
    go_wp2_with fail
    go_region_held3 (fun w' => w'.cell? ⟨wb, 0, none⟩ = some (.pointer (some ⟨p.db, 0, none⟩)) ∧ w'.cell? ⟨wb, 2, none⟩ = some (.slice (some ⟨nb, off, none⟩) N bc) ∧ w'.cell? ⟨wb, 3, none⟩ = some (.slice ga s.bg.length gc) ∧ w'.cell? ⟨nb, off + n, none⟩ = some (.int .i64 b))
      (first | exact q0 | exact HC.out _ (by (repeat (first | exact Same.refl _ _ | apply Same.alloc | apply Same.drew)); done))
      (first | (go_at_call 31; refine Calls.mono (HW.out _ (by (repeat (first | exact Same.refl _ _ | apply Same.alloc | apply Same.drew)); done)) ?_; rintro x w1 ⟨rfl, q0, o1, q1, q2⟩; have Q : Hid _ := And.intro q1 q2; clear q1 q2))
    all_goals
      have HF : Hid _ := fail_any Q.out.2 ht HBL.out cd
      go_wp2_with fail
      refine Calls.mono HF.out ?_
      rintro x w2 ⟨rfl, r1⟩
      have R : Hid _ := r1
      clear r1
      go_wp2_with fail
      go_ret
      exact ⟨rfl, Leaves.after (Q.out.1.mono fun n e' => .inl e') R.out⟩

theorem begin_done {o1 : Nat → Nat} {w1 w2 w3 : World} {v3 : Value} {i : Nat} (h : WrT o t w p sp wb s cl bv gv) (ht : Tg t) (st1 : Step (fun n => n = 2) o w o1 w1) (hs : SpT o1 w1 sp (s.u.set i true)) (kx : Kept w1 w2) (ho : OwnI 0 w3 v3 (s.bl ++ [(i : Int)])) (s3 : Same (fun k => bv.ownBlock = some k) w2 w3) (hn : ∀ k, v3.ownBlock = some k → bv.ownBlock = some k ∨ w2.heap.size ≤ k) :
    Leaves o t w p sp wb { s with u := s.u.set i true, bl := s.bl ++ [(i : Int)] } cl (w3.setCell ⟨wb, 2, none⟩ v3) := by
  have a1 := h.wtr.on st1 ht.n2
  have st2 : Step (fun n => n = 3) o1 w1 o1 w2 := Step.kept kx
  have st2' : Step (fun _ => False) o1 w1 o1 w2 := ⟨kx, fun _ _ => rfl⟩
  have a2 := a1.on st2' (fun h => h)
  have st3 : Step (fun n => n = t) o1 w2 (tagN w2 t o1) w3 := ⟨s3.mono fun k _ e => a2.btag k e, fun k hk => tagN_old hk⟩
  have hl2 := lt_of_heap a2.obj
  have htg : tagN w2 t o1 wb = t := (tagN_old hl2).trans a2.tag
  have ho3 : w3.heap[wb]? = some (wrO p sp bv gv s.sz cl s.br) := (s3.block wb hl2 fun e => (a2.ne.1 wb e).1 rfl).trans a2.obj
  have s4 : Same (fun k => k = wb) w3 (w3.setCell ⟨wb, 2, none⟩ v3) := Same.setCell (S := fun k => k = wb) (Same.refl _ w3) _ (.inr rfl) _
  have st4 : Step (fun n => n = t) (tagN w2 t o1) w3 (tagN w2 t o1) (w3.setCell ⟨wb, 2, none⟩ v3) := ⟨s4.mono fun k _ e => (by show tagN w2 t o1 k = t; rw [e]; exact htg), fun _ _ => rfl⟩
  have n0 : ¬ ((0 : Nat) = t) := fun e => ht.n0 e.symm
  have n1 : ¬ ((1 : Nat) = t) := fun e => ht.n1 e.symm
  have n2 : ¬ ((2 : Nat) = t) := fun e => ht.n2 e.symm
  refine ⟨tagN w2 t o1, v3, gv, (((st1.mono fun n e => .inr (.inl e)).trans (st2'.mono fun n e => e.elim)).trans (st3.mono fun n e => .inr (.inr e))).trans (st4.mono fun n e => .inr (.inr e)), ?_, ?_, ?_⟩
  · exact (((h.dv.on st1 (by decide) (by decide)).on st2' (fun h => h) (fun h => h)).on st3 n0 n1).on st4 n0 n1
  · exact ((hs.on st2' (fun h => h)).on st3 n2).on st4 n2
  · refine ⟨setCell_at ho3 2 _, htg, own_kept ho s4 fun k hk e => ?_, fun k hk => ?_, own_kept (own_kept a2.grow s3 fun k hk e => (a2.ne.2 k hk).2 e) s4 fun k hk e => (a2.ne.2 k hk).1 e, fun k hk => (tagN_old (own_lt a2.grow hk).1).trans (a2.gtag k hk)⟩
    · obtain ⟨-, cur, h1⟩ := own_lt ho hk
      rw [e, ho3] at h1
      simp [wrO] at h1
    · rcases hn k hk with e | e
      · exact (tagN_old (own_lt a2.brow e).1).trans (a2.btag k e)
      · exact tagN_new e
end
end Go.Proofs.Ytpjkmficpedmcaa
