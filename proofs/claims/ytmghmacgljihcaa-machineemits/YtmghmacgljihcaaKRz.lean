/- What is proved: the document's Do, of a step that is refused and of one that finishes a transaction; its machine lies in memory. -/
import Derived.Test.YtmghmacgljihcaaKRy
import Derived.Deep.RegionLaw
namespace Go.Proofs.Ytmghmacgljihcaa
open Go.RowKit

theorem results_tmp4 {fn : Func} {t u v x : Tmp} (h : fn.results = #[.tmp t, .tmp u, .tmp v, .tmp x]) (tmps : Array Value) (P : Program) (w : World) :
    (results fn tmps).run P w = .ok (.tuple #[tmps.getD t undef, tmps.getD u undef, tmps.getD v undef, tmps.getD x undef]) w := by
  simp [results, h]
/-- What Do answers and leaves. -/
abbrev RoP (tg : Nat → Ug) (w : World) (rb n : Nat) (fl : Int) (s : Stp) (R' : Rr) (an : An) (e : Int) : Prop := Calls Try.prog 23 #[.pointer (some ⟨rb, 0, none⟩), stA s] w fun x w' => x = .returned (.tuple #[.bool an.found, .string an.value, .int .i64 an.status, .int .i64 e]) ∧ ∃ av ev L, Rq tg w w' rb n fl R' av ev L
theorem Rq.cells {tg : Nat → Ug} {w wx : World} {rb n : Nat} {fl : Int} {R : Rr} {av ev : Value} {L : List Rt} (h : Rq tg w wx rb n fl R av ev L) : rb < wx.heap.size ∧ (wx.cell? ⟨rb, 0, none⟩ = some (.int .i64 (n : Int)) ∧ wx.cell? ⟨rb, 1, none⟩ = some (.int .i64 fl) ∧ wx.cell? ⟨rb, 2, none⟩ = some (.int .i64 R.clock) ∧ wx.cell? ⟨rb, 3, none⟩ = some av ∧ wx.cell? ⟨rb, 4, none⟩ = some ev) ∧ ∀ o, wx.frozen? ⟨rb, o, none⟩ = false := by
  obtain ⟨tg', h1, -⟩ := h.ex
  have ho := h1.obj
  exact ⟨lt_of_heap ho, ⟨(cell_of ho 0).trans rfl, (cell_of ho 1).trans rfl, (cell_of ho 2).trans rfl, (cell_of ho 3).trans rfl, (cell_of ho 4).trans rfl⟩, frozen_of ho⟩
theorem Rq.runs {tg : Nat → Ug} {w wx : World} {rb n : Nat} {fl : Int} {R : Rr} {av ev : Value} {L : List Rt} (h : Rq tg w wx rb n fl R av ev L) {b cap : Nat} (ea : av = .slice (some ⟨b, 0, none⟩) L.length cap) {i : Nat} {x : Rt} (hx : L[i]? = some x) : b < wx.heap.size ∧ (∀ j u, j < 10 → (rnc1 x)[j]? = some u → wx.cell? ⟨b, i * 10 + j, none⟩ = some u) ∧ ∀ o, wx.frozen? ⟨b, o, none⟩ = false := by
  obtain ⟨tg', h1, -⟩ := h.ex
  have ha := h1.all
  obtain ⟨-, cur, hc⟩ := row_block ha (k := b) (by rw [ea]; rfl)
  rw [ea] at ha
  refine ⟨lt_of_heap hc, fun j u hj hu => ?_, frozen_of hc⟩
  obtain ⟨b', e1, -, -, c⟩ := row_cell ha (j := i * 10 + j) (u := u) (by rw [rnc_get hx j hj]; exact hu)
  cases e1
  exact c
theorem Rq.place {tg : Nat → Ug} {w wx : World} {rb n : Nat} {fl : Int} {R : Rr} {av ev : Value} {L : List Rt} (h : Rq tg w wx rb n fl R av ev L) {i : Nat} {x : Rt} (hx : L[i]? = some x) : ∃ b cap, av = .slice (some ⟨b, 0, none⟩) L.length cap := by
  obtain ⟨tg', h1, -⟩ := h.ex
  have ha := h1.all
  obtain ⟨a, cap, e, -, h0, hg⟩ := row_shape ha
  have hil := (List.getElem?_eq_some_iff.1 hx).1
  cases a with
  | none => have := (h0 rfl).1; omega
  | some ad =>
    obtain ⟨g, rfl, -⟩ := hg ad rfl
    exact ⟨g, cap, e⟩
theorem Rq.len {tg : Nat → Ug} {w wx : World} {rb n : Nat} {fl : Int} {R : Rr} {av ev : Value} {L : List Rt} (h : Rq tg w wx rb n fl R av ev L) : L.map (·.1) = R.all := by
  obtain ⟨tg', h1, -⟩ := h.ex
  exact h1.map
/-- The machine while transaction i is written: it is r by now. -/
def Fx (tg : Nat → Ug) (w wx : World) (rb n : Nat) (fl : Int) (R : Rr) (av ev : Value) (i : Nat) (r : Rn) (x2 : Value × Value) (ll : Nat) : Prop := ∃ L, L.length = ll ∧ L[i]? = some (r, x2) ∧ Rq tg w wx rb n fl { R with all := R.all.set i r } av ev L
theorem Fx.start {tg : Nat → Ug} {w wx : World} {rb n : Nat} {fl : Int} {R : Rr} {av ev : Value} {L : List Rt} (h : Rq tg w wx rb n fl R av ev L) {i : Nat} {x : Rt} (hx : L[i]? = some x) : Fx tg w wx rb n fl R av ev i x.1 x.2 L.length := by
  refine ⟨L, rfl, hx, ?_⟩
  have hr : R.all[i]? = some x.1 := by rw [← h.len, List.getElem?_map, hx]; rfl
  have : R.all.set i x.1 = R.all := by
    apply List.ext_getElem?
    intro q
    rw [List.getElem?_set]
    split
    · rename_i e
      subst e
      rw [hr]
      first | rfl | (rw [if_pos (List.getElem?_eq_some_iff.1 hr).1])
    · rfl
  rw [this]
  exact h
theorem Fx.on {tg : Nat → Ug} {w wx wy : World} {rb n : Nat} {fl : Int} {R : Rr} {av ev : Value} {i : Nat} {r : Rn} {x2 : Value × Value} {ll : Nat} (h : Fx tg w wx rb n fl R av ev i r x2 ll) (k : Kept wx wy) : Fx tg w wy rb n fl R av ev i r x2 ll := by
  obtain ⟨L, h1, h2, h3⟩ := h
  exact ⟨L, h1, h2, h3.on k⟩
theorem Fx.put {tg : Nat → Ug} {w wx : World} {rb n : Nat} {fl : Int} {R : Rr} {av ev : Value} {i : Nat} {r : Rn} {x2 : Value × Value} {ll : Nat} (h : Fx tg w wx rb n fl R av ev i r x2 ll) {g : Nat} (hg : av.ownBlock = some g) {j : Nat} (hj : j < 10) {v : Value} (r' : Rn) (hv : (rnc1 (r, x2)).set j v = rnc1 (r', x2)) (ho : r'.t.ops = r.t.ops) (ht : r'.ts = r.ts) : Fx tg w (wx.setCell ⟨g, i * 10 + j, none⟩ v) rb n fl R av ev i r' x2 ll := by
  obtain ⟨L, h1, h2, h3⟩ := h
  have hil := (List.getElem?_eq_some_iff.1 h2).1
  have h4 := h3.cell hg h2 hj r' hv ho ht
  refine ⟨L.set i (r', x2), by rw [List.length_set]; exact h1, by rw [List.getElem?_set, if_pos rfl]; first | rfl | rw [if_pos hil], ?_⟩
  simp only [List.set_set] at h4
  exact h4
theorem Fx.cells {tg : Nat → Ug} {w wx : World} {rb n : Nat} {fl : Int} {R : Rr} {av ev : Value} {i : Nat} {r : Rn} {x2 : Value × Value} {ll : Nat} (h : Fx tg w wx rb n fl R av ev i r x2 ll) {b cap : Nat} (ea : av = .slice (some ⟨b, 0, none⟩) ll cap) : (rb < wx.heap.size ∧ wx.cell? ⟨rb, 2, none⟩ = some (.int .i64 R.clock) ∧ wx.cell? ⟨rb, 3, none⟩ = some (.slice (some ⟨b, 0, none⟩) ll cap) ∧ wx.cell? ⟨rb, 4, none⟩ = some ev) ∧ b < wx.heap.size ∧ (∀ j u, j < 10 → (rnc1 (r, x2))[j]? = some u → wx.cell? ⟨b, i * 10 + j, none⟩ = some u) ∧ ∀ o, wx.frozen? ⟨b, o, none⟩ = false := by
  obtain ⟨L, h1, h2, h3⟩ := h
  obtain ⟨hrl, ⟨-, -, m2, m3, m4⟩, -⟩ := h3.cells
  subst h1
  rw [ea] at m3
  exact ⟨⟨hrl, m2, m3, m4⟩, h3.runs ea h2⟩
theorem Fx.addEnd {tg : Nat → Ug} {w wx W' w4 : World} {rb n : Nat} {fl : Int} {R : Rr} {av ev v4 : Value} {i : Nat} {r : Rn} {x2 : Value × Value} {ll : Nat} (h : Fx tg w wx rb n fl R av ev i r x2 ll) (k : Kept wx W') {q : Nat} (ho : OwnI 0 w4 v4 ((R.ends.map fun i => ((i : Nat) : Int)) ++ [(q : Int)])) (hs : Same (fun b => ev.ownBlock = some b) W' w4) (hl : ∀ b, v4.ownBlock = some b → ev.ownBlock = some b ∨ W'.heap.size ≤ b) :
    (w4.cell? ⟨rb, 4, none⟩ = some ev ∧ w4.frozen? ⟨rb, 4, none⟩ = false ∧ rb < w4.heap.size ∧ ∃ a n c, v4 = .slice a n c) ∧ ∃ L, Rq tg w (w4.setCell ⟨rb, 4, none⟩ v4) rb n fl { R with all := R.all.set i r, ends := R.ends ++ [q] } av v4 L := by
  obtain ⟨L, h1, h2, h3⟩ := h
  obtain ⟨⟨h4, h5⟩, h6⟩ := h3.addEnd k (i := q) ho hs hl
  exact ⟨⟨(cell_of h4 4).trans rfl, frozen_of h4 4, lt_of_heap h4, h5⟩, L, h6⟩
theorem Fx.ends {tg : Nat → Ug} {w wx : World} {rb n : Nat} {fl : Int} {R : Rr} {av ev : Value} {i : Nat} {r : Rn} {x2 : Value × Value} {ll : Nat} (h : Fx tg w wx rb n fl R av ev i r x2 ll) : OwnI 0 wx ev (R.ends.map fun i => ((i : Nat) : Int)) := by
  obtain ⟨L, h1, h2, h3⟩ := h
  obtain ⟨tg', h4, -⟩ := h3.ex
  exact h4.ends
theorem Fx.rows {tg : Nat → Ug} {w wx : World} {rb n : Nat} {fl : Int} {R : Rr} {av ev : Value} {i : Nat} {r : Rn} {x2 : Value × Value} {ll : Nat} (h : Fx tg w wx rb n fl R av ev i r x2 ll) : OwnO 0 wx x2.1 r.t.ops ∧ OwnI 0 wx x2.2 r.ts := by
  obtain ⟨L, h1, h2, h3⟩ := h
  obtain ⟨tg', h4, -⟩ := h3.ex
  obtain ⟨r1, r2, -⟩ := h4.row i _ h2
  exact ⟨r1, r2⟩
theorem Fx.addOp {tg : Nat → Ug} {w wx W' w4 : World} {rb n : Nat} {fl : Int} {R : Rr} {av ev v4 : Value} {i : Nat} {r : Rn} {x2 : Value × Value} {ll : Nat} (h : Fx tg w wx rb n fl R av ev i r x2 ll) (k : Kept wx W') {g cap : Nat} (ea : av = .slice (some ⟨g, 0, none⟩) ll cap) {o : OpM} (ho : OwnO 0 w4 v4 (r.t.ops ++ [o])) (hs : Same (fun b => x2.1.ownBlock = some b) W' w4) (hl : ∀ b, v4.ownBlock = some b → x2.1.ownBlock = some b ∨ W'.heap.size ≤ b) :
    (w4.cell? ⟨rb, 3, none⟩ = some (.slice (some ⟨g, 0, none⟩) ll cap) ∧ rb < w4.heap.size ∧ w4.cell? ⟨g, i * 10 + 7, none⟩ = some x2.1 ∧ w4.frozen? ⟨g, i * 10 + 7, none⟩ = false ∧ g < w4.heap.size ∧ ∃ a n c, v4 = .slice a n c) ∧ Fx tg w (w4.setCell ⟨g, i * 10 + 7, none⟩ v4) rb n fl R av ev i ⟨⟨r.t.f0, r.t.f1, r.t.f2, r.t.f3, r.t.f4, r.t.f5, r.t.f6, r.t.ops ++ [o]⟩, r.st, r.ts⟩ (v4, x2.2) ll := by
  obtain ⟨L, h1, h2, h3⟩ := h
  have hil := (List.getElem?_eq_some_iff.1 h2).1
  have hg : av.ownBlock = some g := by rw [ea]; rfl
  obtain ⟨⟨h4, h5, h7⟩, h6⟩ := h3.addOp k hg h2 (r' := ⟨⟨r.t.f0, r.t.f1, r.t.f2, r.t.f3, r.t.f4, r.t.f5, r.t.f6, r.t.ops ++ [o]⟩, r.st, r.ts⟩) (o := o) (fun _ => rfl) ⟨rfl, rfl⟩ ho hs hl
  obtain ⟨-, cur, hc⟩ := row_block h5 hg
  have h5' := h5
  rw [ea] at h5'
  obtain ⟨b', e1, -, -, c⟩ := row_cell h5' (j := i * 10 + 7) (u := x2.1) (by rw [rnc_get h2 7 (by decide)]; rfl)
  cases e1
  refine ⟨⟨(cell_of h4 3).trans (by rw [ea]; rfl), lt_of_heap h4, c, frozen_of hc _, lt_of_heap hc, h7⟩, L.set i (⟨⟨r.t.f0, r.t.f1, r.t.f2, r.t.f3, r.t.f4, r.t.f5, r.t.f6, r.t.ops ++ [o]⟩, r.st, r.ts⟩, (v4, x2.2)), by rw [List.length_set]; exact h1, by rw [List.getElem?_set, if_pos rfl]; first | rfl | rw [if_pos hil], ?_⟩
  simp only [List.set_set] at h6
  exact h6
theorem Fx.addAt {tg : Nat → Ug} {w wx W' w4 : World} {rb n : Nat} {fl : Int} {R : Rr} {av ev v4 : Value} {i : Nat} {r : Rn} {x2 : Value × Value} {ll : Nat} (h : Fx tg w wx rb n fl R av ev i r x2 ll) (k : Kept wx W') {g cap : Nat} (ea : av = .slice (some ⟨g, 0, none⟩) ll cap) {c : Int} (ho : OwnI 0 w4 v4 (r.ts ++ [c])) (hs : Same (fun b => x2.2.ownBlock = some b) W' w4) (hl : ∀ b, v4.ownBlock = some b → x2.2.ownBlock = some b ∨ W'.heap.size ≤ b) :
    (w4.cell? ⟨rb, 3, none⟩ = some (.slice (some ⟨g, 0, none⟩) ll cap) ∧ rb < w4.heap.size ∧ w4.cell? ⟨g, i * 10 + 9, none⟩ = some x2.2 ∧ w4.frozen? ⟨g, i * 10 + 9, none⟩ = false ∧ g < w4.heap.size ∧ ∃ a n c, v4 = .slice a n c) ∧ Fx tg w (w4.setCell ⟨g, i * 10 + 9, none⟩ v4) rb n fl R av ev i ⟨r.t, r.st, r.ts ++ [c]⟩ (x2.1, v4) ll := by
  obtain ⟨L, h1, h2, h3⟩ := h
  have hil := (List.getElem?_eq_some_iff.1 h2).1
  have hg : av.ownBlock = some g := by rw [ea]; rfl
  obtain ⟨⟨h4, h5, h7⟩, h6⟩ := h3.addAt k hg h2 (r' := ⟨r.t, r.st, r.ts ++ [c]⟩) (c := c) (fun _ => rfl) ⟨rfl, rfl⟩ ho hs hl
  obtain ⟨-, cur, hc⟩ := row_block h5 hg
  have h5' := h5
  rw [ea] at h5'
  obtain ⟨b', e1, -, -, cc⟩ := row_cell h5' (j := i * 10 + 9) (u := x2.2) (by rw [rnc_get h2 9 (by decide)]; rfl)
  cases e1
  refine ⟨⟨(cell_of h4 3).trans (by rw [ea]; rfl), lt_of_heap h4, cc, frozen_of hc _, lt_of_heap hc, h7⟩, L.set i (⟨r.t, r.st, r.ts ++ [c]⟩, (x2.1, v4)), by rw [List.length_set]; exact h1, by rw [List.getElem?_set, if_pos rfl]; first | rfl | rw [if_pos hil], ?_⟩
  simp only [List.set_set] at h6
  exact h6
set_option maxRecDepth 100000 in
set_option maxHeartbeats 3200000 in
theorem rdo_no {tg : Nat → Ug} {w : World} {rb n : Nat} {fl : Int} {R : Rr} {av ev : Value} {L : List Rt} (h : Rm tg w rb n fl R av ev L) (hs : Sml R) (s : Stp) (hk : s.key.size ≤ maxLen) (hv : s.value.size ≤ maxLen) (h0 : rCode n R s ≠ 0) : RoP tg w rb n fl s R an0 (rCode n R s) := by
  have K0 : Hid (Kept w (w.alloc (stO s))) := (Same.refl _ w).alloc _
  have G0 : Hid _ := heap_new w (stO s)
  have Q0 : Hid (Rq tg w (w.alloc (stO s)) rb n fl R av ev L) := (Rq.start h).on K0.out
  have HRF : Hid (Calls Try.prog 35 #[.pointer (some ⟨rb, 0, none⟩), stA s] (w.alloc (stO s)) fun e w' => e = .returned (.int .i64 (rCode n R s)) ∧ Kept (w.alloc (stO s)) w') := by
    obtain ⟨a, cap, ea, hrd⟩ := Rq.rd Q0.out
    exact rrefuse15 hrd hs s hk hv
  unfold RoP
  generalize rCode n R s = cd at *
  obtain ⟨kd, se, gp, k, v⟩ := s
  have f0 : (cd != 0) = true := by simpa using h0
  clear h hk hv
  unfold stA
  simp only
  go_enter Try.func23, Try.ntmps23
  go_upto_region 1 with fail
  generalize w.alloc (stO ⟨kd, se, gp, k, v⟩) = W at *
  generalize w.heap.size = g at G0 ⊢
  obtain ⟨c0, c1, c2, c3, c4⟩ := st_cells G0.out
  have hg := lt_of_heap G0.out
  simp only at c0 c1 c2 c3 c4
  go_wp2_with fail
  refine Calls.mono HRF.out ?_
  rintro r2 w2 ⟨rfl, k2⟩
  go_wp2_with fail
  ((try simp only [Exit.inBlock, Exit.then]); refine bodyPost_ret (results_tmp4 rfl _ _ _) rfl ?_)
  exact ⟨rfl, av, ev, L, Rq.on Q0.out k2⟩
set_option maxRecDepth 100000 in
set_option maxHeartbeats 3200000 in
theorem rdo_5 {tg : Nat → Ug} {w : World} {rb n : Nat} {fl : Int} {R : Rr} {av ev : Value} {L : List Rt} (h : Rm tg w rb n fl R av ev L) (hs : Sml R) (hc : 0 ≤ R.clock ∧ R.clock ≤ 1099511627776) (se gp : Int) (k v : ByteArray) (hk : k.size ≤ maxLen) (hv : v.size ≤ maxLen) (h0 : rCode n R ⟨5, se, gp, k, v⟩ = 0) (hgp : 0 ≤ gp ∧ gp ≤ 1000) {i : Nat} (ha : rAct R.all se = some i) : RoP tg w rb n fl ⟨5, se, gp, k, v⟩ (rEnd (rTick R (R.clock + 1 + gp)) i (sts (rPass fl (R.clock + 1 + gp) R.all (gR R.all i).t))) ⟨false, e0, sts (rPass fl (R.clock + 1 + gp) R.all (gR R.all i).t)⟩ 0 := by
  have K0 : Hid (Kept w (w.alloc (stO ⟨5, se, gp, k, v⟩))) := (Same.refl _ w).alloc _
  have G0 : Hid _ := heap_new w (stO ⟨5, se, gp, k, v⟩)
  have Q0 : Hid (Rq tg w (w.alloc (stO ⟨5, se, gp, k, v⟩)) rb n fl R av ev L) := (Rq.start h).on K0.out
  have HRF : Hid (Calls Try.prog 35 #[.pointer (some ⟨rb, 0, none⟩), stA ⟨5, se, gp, k, v⟩] (w.alloc (stO ⟨5, se, gp, k, v⟩)) fun e w' => e = .returned (.int .i64 0) ∧ Kept (w.alloc (stO ⟨5, se, gp, k, v⟩)) w') := by
    obtain ⟨a, cap, ea, hrd⟩ := Rq.rd Q0.out
    have := rrefuse15 hrd hs ⟨5, se, gp, k, v⟩ hk hv
    unfold RfP at this
    rw [h0] at this
    exact this
  obtain ⟨c, ec⟩ : ∃ c, c = R.clock + 1 + gp := ⟨_, rfl⟩
  have S1 : Hid (Sml (rTick R c)) := ⟨hs.n, hs.e, hs.o⟩
  have wr1 : IntKind.i64.wrap (1 + gp) = 1 + gp := by rw [IntKind.wrap_i64] <;> omega
  have wr2 : IntKind.i64.wrap (R.clock + (1 + gp)) = c := by rw [IntKind.wrap_i64] <;> omega
  have wb1 : -9223372036854775808 ≤ 1 + gp ∧ 1 + gp ≤ 9223372036854775807 := by omega
  have wb2 : -9223372036854775808 ≤ R.clock + (1 + gp) ∧ R.clock + (1 + gp) ≤ 9223372036854775807 := by omega
  have EQC : Hid (R.clock + (1 + gp) = c) := (by omega : R.clock + (1 + gp) = c)
  rw [← ec]
  unfold RoP
  have HA : Hid (rAct R.all se = some i) := ha
  have hi : i < R.all.length := by
    obtain ⟨r, h1, -⟩ := rAct_in ha
    exact (List.getElem?_eq_some_iff.1 h1).1
  obtain ⟨x, hx, ex⟩ : ∃ x, L[i]? = some x ∧ x.1 = gR R.all i := by
    have hm := h.map
    have hl : i < L.length := by rw [← hm, List.length_map] at hi; exact hi
    exact ⟨L[i], List.getElem?_eq_getElem hl, by rw [← hm]; exact (gR_of (by rw [List.getElem?_map, List.getElem?_eq_getElem hl]; rfl)).symm⟩
  have HX : Hid (L[i]? = some x) := hx
  have EX : Hid (x.1 = gR R.all i) := ex
  have HI : Hid (i < R.all.length) := hi
  obtain ⟨b, cap, ea⟩ := Rq.place Q0.out hx
  have EA : Hid (av = .slice (some ⟨b, 0, none⟩) L.length cap) := ea
  have OB : Hid (av.ownBlock = some b) := (by rw [ea]; rfl : av.ownBlock = some b)
  have hil := (List.getElem?_eq_some_iff.1 hx).1
  have hln : L.length ≤ 4096 := by have := hs.n; rw [← h.map, List.length_map] at this; exact this
  obtain ⟨pb, epb⟩ : ∃ pb, pb = rPass fl c R.all (gR R.all i).t := ⟨_, rfl⟩
  have EPB : Hid (pb = rPass fl c R.all (gR R.all i).t) := epb
  try rw [← epb]
  obtain ⟨ll, ell⟩ : ∃ ll, ll = L.length := ⟨_, rfl⟩
  rw [← ell] at EA hil hln
  have ELL : Hid (ll = L.length) := ell
  have hi2 : (i : Int) < (ll : Int) := by omega
  have hi3 : decide ((i : Int) < (ll : Int)) = true := decide_eq_true hi2
  clear ha hx ex hi ea epb ell
  clear h hk hv h0 ec
  unfold stA
  simp only
  go_enter Try.func23, Try.ntmps23
  go_upto_region 1 with fail
  generalize w.alloc (stO ⟨5, se, gp, k, v⟩) = W at *
  generalize w.heap.size = g at G0 ⊢
  obtain ⟨c0, c1, c2, c3, c4⟩ := st_cells G0.out
  have hg := lt_of_heap G0.out
  simp only at c0 c1 c2 c3 c4
  go_wp2_with fail
  refine Calls.mono HRF.out ?_
  rintro r2 w2 ⟨rfl, k2⟩
  have Q1 : Hid (Rq tg w w2 rb n fl R av ev L) := Rq.on Q0.out k2
  have G2 : Hid (w2.heap[g]? = some (stO ⟨5, se, gp, k, v⟩)) := (k2.block g hg (fun e => e)).trans G0.out
  clear c0 c1 c2 c3 c4 hg k2 Q0 G0 HRF K0
  obtain ⟨c0, c1, c2, c3, c4⟩ := st_cells G2.out
  have hg := lt_of_heap G2.out
  simp only at c0 c1 c2 c3 c4
  obtain ⟨hrl, ⟨-, -, m2, m3, -⟩, fz⟩ := Rq.cells Q1.out
  have fz2 := fz 2
  clear fz
  go_upto_region 5 with fail
  go_region
  have hgr : g ≠ rb := fun e => by
    obtain ⟨tg1, h1, -⟩ := Rq.ex Q1.out
    subst e
    exact types_ne G2.out h1.obj (by decide)
  have Q2 : Hid (Rq tg w ((w2.setCell ⟨rb, 2, none⟩ (.int .i64 c)).drew) rb n fl (rTick R c) av ev L) := Rq.on (Rq.clock Q1.out c) (Same.refl _ _).drew
  have G3 : Hid ((w2.setCell ⟨rb, 2, none⟩ (.int .i64 c)).drew.heap[g]? = some (stO ⟨5, se, gp, k, v⟩)) := (heap_set (w := w2) (p := ⟨rb, 2, none⟩) (u := .int .i64 c) hgr).trans G2.out
  generalize (w2.setCell ⟨rb, 2, none⟩ (.int .i64 c)).drew = W3 at *
  clear c0 c1 c2 c3 c4 hg m2 m3 fz2 hrl G2 Q1
  obtain ⟨c0, c1, c2, c3, c4⟩ := st_cells G3.out
  have hg := lt_of_heap G3.out
  simp only at c0 c1 c2 c3 c4
  have HAC : Hid (Calls Try.prog 10 #[.pointer (some ⟨rb, 0, none⟩), .int .i64 se] W3 fun e w' => e = .returned (.int .i64 (i : Int)) ∧ w' = W3) := by
    obtain ⟨a, cap, ea, hrd⟩ := Rq.rd Q2.out
    have h9 := ractive15 hrd S1.out.n se
    rw [show rAct (rTick R c).all se = some i from HA.out] at h9
    exact h9
  go_wp2_with fail
  refine Calls.mono HAC.out ?_
  rintro r4 w4 ⟨rfl, e4⟩
  subst e4
  clear HAC
  have HPA : Hid (Calls Try.prog 36 #[.pointer (some ⟨rb, 0, none⟩), .int .i64 (i : Int)] w4 fun e w' => e = .returned (.bool pb) ∧ Kept w4 w') := by
    obtain ⟨a, cap, ea, hrd⟩ := Rq.rd Q2.out
    have h9 := rpasses15 hrd S1.out (i := i) HI.out
    rw [show rPass fl (rTick R c).clock (rTick R c).all (gR (rTick R c).all i).t = pb from EPB.out.symm] at h9
    exact h9
  go_wp2_with fail
  refine Calls.mono HPA.out ?_
  rintro r5 W5 ⟨rfl, k5⟩
  have Q3 : Hid (Rq tg w W5 rb n fl (rTick R c) av ev L) := Rq.on Q2.out k5
  have G5 : Hid (W5.heap[g]? = some (stO ⟨5, se, gp, k, v⟩)) := (k5.block g hg (fun e => e)).trans G3.out
  clear c0 c1 c2 c3 c4 hg k5 Q2 G3 HPA
  obtain ⟨c0, c1, c2, c3, c4⟩ := st_cells G5.out
  have hg := lt_of_heap G5.out
  simp only at c0 c1 c2 c3 c4
  have F0 : Hid (Fx tg w W5 rb n fl (rTick R c) av ev i x.1 x.2 ll) := (by rw [ELL.out]; exact Fx.start Q3.out HX.out)
  clear Q3
  cases pb with
  | true =>
    obtain ⟨⟨hrl, m2, m3, -⟩, hbl, hcl, fz⟩ := Fx.cells F0.out EA.out
    have cj := hcl 3 _ (by decide) rfl
    have fj := fz (i * 10 + 3)
    clear hcl fz
    simp only [rTick] at m2
    go_upto_region 21 with fail
    go_region
    have F1 : Hid (Fx tg w (W5.setCell ⟨b, i * 10 + 3, none⟩ (.int .i64 c)).drew rb n fl (rTick R c) av ev i (⟨⟨x.1.t.f0, x.1.t.f1, x.1.t.f2, c, x.1.t.f4, x.1.t.f5, x.1.t.f6, x.1.t.ops⟩, x.1.st, x.1.ts⟩ : Rn) x.2 ll) := Fx.on (Fx.put F0.out OB.out (j := 3) (by decide) (⟨⟨x.1.t.f0, x.1.t.f1, x.1.t.f2, c, x.1.t.f4, x.1.t.f5, x.1.t.f6, x.1.t.ops⟩, x.1.st, x.1.ts⟩ : Rn) rfl rfl rfl) (Same.refl _ _).drew
    generalize (W5.setCell ⟨b, i * 10 + 3, none⟩ (.int .i64 c)).drew = W6 at *
    clear hrl m2 m3 hbl cj fj F0
    obtain ⟨⟨hrl, m2, m3, -⟩, hbl, hcl, fz⟩ := Fx.cells F1.out EA.out
    have cj := hcl 5 _ (by decide) rfl
    have fj := fz (i * 10 + 5)
    clear hcl fz
    simp only [rTick] at m2
    go_upto_region 22 with fail
    go_region
    have F2 : Hid (Fx tg w (W6.setCell ⟨b, i * 10 + 5, none⟩ (.int .i64 c)).drew rb n fl (rTick R c) av ev i (⟨⟨x.1.t.f0, x.1.t.f1, x.1.t.f2, c, x.1.t.f4, c, x.1.t.f6, x.1.t.ops⟩, x.1.st, x.1.ts⟩ : Rn) x.2 ll) := Fx.on (Fx.put F1.out OB.out (j := 5) (by decide) (⟨⟨x.1.t.f0, x.1.t.f1, x.1.t.f2, c, x.1.t.f4, c, x.1.t.f6, x.1.t.ops⟩, x.1.st, x.1.ts⟩ : Rn) rfl rfl rfl) (Same.refl _ _).drew
    generalize (W6.setCell ⟨b, i * 10 + 5, none⟩ (.int .i64 c)).drew = W7 at *
    clear hrl m2 m3 hbl cj fj F1
    obtain ⟨⟨hrl, m2, m3, -⟩, hbl, hcl, fz⟩ := Fx.cells F2.out EA.out
    have cj := hcl 6 _ (by decide) rfl
    have fj := fz (i * 10 + 6)
    clear hcl fz
    simp only [rTick] at m2
    go_upto_region 24 with fail
    skip
    have F3 : Hid (Fx tg w (W7.setCell ⟨b, i * 10 + 6, none⟩ (.int .i64 1)) rb n fl (rTick R c) av ev i (⟨⟨x.1.t.f0, x.1.t.f1, x.1.t.f2, c, x.1.t.f4, c, 1, x.1.t.ops⟩, x.1.st, x.1.ts⟩ : Rn) x.2 ll) := Fx.on (Fx.put F2.out OB.out (j := 6) (by decide) (⟨⟨x.1.t.f0, x.1.t.f1, x.1.t.f2, c, x.1.t.f4, c, 1, x.1.t.ops⟩, x.1.st, x.1.ts⟩ : Rn) rfl rfl rfl) (Same.refl _ _)
    generalize (W7.setCell ⟨b, i * 10 + 6, none⟩ (.int .i64 1)) = W8 at *
    clear hrl m2 m3 hbl cj fj F2
    obtain ⟨⟨hrl, m2, m3, -⟩, hbl, hcl, fz⟩ := Fx.cells F3.out EA.out
    have cj := hcl 8 _ (by decide) rfl
    have fj := fz (i * 10 + 8)
    clear hcl fz
    simp only [rTick] at m2
    go_upto_region 25 with fail
    skip
    have F4 : Hid (Fx tg w (W8.setCell ⟨b, i * 10 + 8, none⟩ (.int .i64 1)) rb n fl (rTick R c) av ev i (⟨⟨x.1.t.f0, x.1.t.f1, x.1.t.f2, c, x.1.t.f4, c, 1, x.1.t.ops⟩, 1, x.1.ts⟩ : Rn) x.2 ll) := Fx.on (Fx.put F3.out OB.out (j := 8) (by decide) (⟨⟨x.1.t.f0, x.1.t.f1, x.1.t.f2, c, x.1.t.f4, c, 1, x.1.t.ops⟩, 1, x.1.ts⟩ : Rn) rfl rfl rfl) (Same.refl _ _)
    generalize (W8.setCell ⟨b, i * 10 + 8, none⟩ (.int .i64 1)) = W9 at *
    clear hrl m2 m3 hbl cj fj F3
    have HE : Hid (OwnI 0 W9 ev (R.ends.map fun i => ((i : Nat) : Int))) := (by have h9 := Fx.ends F4.out; exact h9)
    have K9 : Hid (Kept W9 (W9.alloc (.cells #[.int .i64 (i : Int)] 3 (0, 0)))) := (Same.refl _ W9).alloc _
    have HAP : Hid (∀ ty, ∃ v' w', (Builtin.append_ #[64, 64] ty #[ev, .slice (some ⟨W9.heap.size, 0, none⟩) 1 1]).run Try.prog (W9.alloc (.cells #[.int .i64 (i : Int)] 3 (0, 0))) = .ok v' w' ∧ ((w'.cell? ⟨rb, 4, none⟩ = some ev ∧ w'.frozen? ⟨rb, 4, none⟩ = false ∧ rb < w'.heap.size ∧ ∃ a n c, v' = .slice a n c) ∧ ∃ L, Rq tg w (w'.setCell ⟨rb, 4, none⟩ v') rb n fl (rEnd (rTick R c) i 1) av v' L)) := fun ty => by
      obtain ⟨v', w', h1, h2, h3, h4⟩ := app_int (x := (i : Int)) (row_kept HE.out K9.out fun _ _ e => e) (heap_new W9 _) (by rw [List.length_map]; exact S1.out.e) (Nat.zero_le _) ty
      obtain ⟨h5, L4, h6⟩ := Fx.addEnd F4.out K9.out (q := i) h2 h3 h4
      refine ⟨v', w', h1, h5, L4, ?_⟩
      have hR : rEnd (rTick R c) i 1 = { rTick R c with all := (rTick R c).all.set i (⟨⟨x.1.t.f0, x.1.t.f1, x.1.t.f2, c, x.1.t.f4, c, 1, x.1.t.ops⟩, 1, x.1.ts⟩ : Rn), ends := (rTick R c).ends ++ [i] } := by
        unfold rEnd endR endT
        rw [show gR (rTick R c).all i = x.1 from EX.out.symm]
        rfl
      rw [hR]
      exact h6
    obtain ⟨⟨hrl, -, m3, m4⟩, -⟩ := Fx.cells F4.out EA.out
    obtain ⟨ea, ecp, eev, -⟩ := row_shape HE.out
    rw [List.length_map] at eev
    clear HE F4
    obtain rfl := eev
    generalize R.ends.length = el at *
    go_wp2_with (at_builtin; refine wpList_app rfl (.tmp 143) (.tmp 145) 64 rfl _ _ rfl rfl _ HAP.out ?_; rintro v4 w4 ⟨⟨c40, f40, b40, a4, n4, cp4, rfl⟩, L4, ip⟩; have IP : Hid _ := ip; clear ip)
    ((try simp only [Exit.inBlock, Exit.then]); refine bodyPost_ret (results_tmp4 rfl _ _ _) rfl ?_)
    exact ⟨rfl, _, _, L4, IP.out⟩
  | false =>
    obtain ⟨⟨hrl, m2, m3, -⟩, hbl, hcl, fz⟩ := Fx.cells F0.out EA.out
    have cj := hcl 3 _ (by decide) rfl
    have fj := fz (i * 10 + 3)
    clear hcl fz
    simp only [rTick] at m2
    go_upto_region 21 with fail
    go_region
    have F1 : Hid (Fx tg w (W5.setCell ⟨b, i * 10 + 3, none⟩ (.int .i64 c)).drew rb n fl (rTick R c) av ev i (⟨⟨x.1.t.f0, x.1.t.f1, x.1.t.f2, c, x.1.t.f4, x.1.t.f5, x.1.t.f6, x.1.t.ops⟩, x.1.st, x.1.ts⟩ : Rn) x.2 ll) := Fx.on (Fx.put F0.out OB.out (j := 3) (by decide) (⟨⟨x.1.t.f0, x.1.t.f1, x.1.t.f2, c, x.1.t.f4, x.1.t.f5, x.1.t.f6, x.1.t.ops⟩, x.1.st, x.1.ts⟩ : Rn) rfl rfl rfl) (Same.refl _ _).drew
    generalize (W5.setCell ⟨b, i * 10 + 3, none⟩ (.int .i64 c)).drew = W6 at *
    clear hrl m2 m3 hbl cj fj F0
    obtain ⟨⟨hrl, m2, m3, -⟩, hbl, hcl, fz⟩ := Fx.cells F1.out EA.out
    have cj := hcl 5 _ (by decide) rfl
    have fj := fz (i * 10 + 5)
    clear hcl fz
    simp only [rTick] at m2
    go_upto_region 22 with fail
    go_region
    have F2 : Hid (Fx tg w (W6.setCell ⟨b, i * 10 + 5, none⟩ (.int .i64 c)).drew rb n fl (rTick R c) av ev i (⟨⟨x.1.t.f0, x.1.t.f1, x.1.t.f2, c, x.1.t.f4, c, x.1.t.f6, x.1.t.ops⟩, x.1.st, x.1.ts⟩ : Rn) x.2 ll) := Fx.on (Fx.put F1.out OB.out (j := 5) (by decide) (⟨⟨x.1.t.f0, x.1.t.f1, x.1.t.f2, c, x.1.t.f4, c, x.1.t.f6, x.1.t.ops⟩, x.1.st, x.1.ts⟩ : Rn) rfl rfl rfl) (Same.refl _ _).drew
    generalize (W6.setCell ⟨b, i * 10 + 5, none⟩ (.int .i64 c)).drew = W7 at *
    clear hrl m2 m3 hbl cj fj F1
    obtain ⟨⟨hrl, m2, m3, -⟩, hbl, hcl, fz⟩ := Fx.cells F2.out EA.out
    have cj := hcl 6 _ (by decide) rfl
    have fj := fz (i * 10 + 6)
    clear hcl fz
    simp only [rTick] at m2
    go_upto_region 24 with fail
    skip
    have F3 : Hid (Fx tg w (W7.setCell ⟨b, i * 10 + 6, none⟩ (.int .i64 0)) rb n fl (rTick R c) av ev i (⟨⟨x.1.t.f0, x.1.t.f1, x.1.t.f2, c, x.1.t.f4, c, 0, x.1.t.ops⟩, x.1.st, x.1.ts⟩ : Rn) x.2 ll) := Fx.on (Fx.put F2.out OB.out (j := 6) (by decide) (⟨⟨x.1.t.f0, x.1.t.f1, x.1.t.f2, c, x.1.t.f4, c, 0, x.1.t.ops⟩, x.1.st, x.1.ts⟩ : Rn) rfl rfl rfl) (Same.refl _ _)
    generalize (W7.setCell ⟨b, i * 10 + 6, none⟩ (.int .i64 0)) = W8 at *
    clear hrl m2 m3 hbl cj fj F2
    obtain ⟨⟨hrl, m2, m3, -⟩, hbl, hcl, fz⟩ := Fx.cells F3.out EA.out
    have cj := hcl 8 _ (by decide) rfl
    have fj := fz (i * 10 + 8)
    clear hcl fz
    simp only [rTick] at m2
    go_upto_region 25 with fail
    skip
    have F4 : Hid (Fx tg w (W8.setCell ⟨b, i * 10 + 8, none⟩ (.int .i64 1)) rb n fl (rTick R c) av ev i (⟨⟨x.1.t.f0, x.1.t.f1, x.1.t.f2, c, x.1.t.f4, c, 0, x.1.t.ops⟩, 1, x.1.ts⟩ : Rn) x.2 ll) := Fx.on (Fx.put F3.out OB.out (j := 8) (by decide) (⟨⟨x.1.t.f0, x.1.t.f1, x.1.t.f2, c, x.1.t.f4, c, 0, x.1.t.ops⟩, 1, x.1.ts⟩ : Rn) rfl rfl rfl) (Same.refl _ _)
    generalize (W8.setCell ⟨b, i * 10 + 8, none⟩ (.int .i64 1)) = W9 at *
    clear hrl m2 m3 hbl cj fj F3
    have HE : Hid (OwnI 0 W9 ev (R.ends.map fun i => ((i : Nat) : Int))) := (by have h9 := Fx.ends F4.out; exact h9)
    have K9 : Hid (Kept W9 (W9.alloc (.cells #[.int .i64 (i : Int)] 3 (0, 0)))) := (Same.refl _ W9).alloc _
    have HAP : Hid (∀ ty, ∃ v' w', (Builtin.append_ #[64, 64] ty #[ev, .slice (some ⟨W9.heap.size, 0, none⟩) 1 1]).run Try.prog (W9.alloc (.cells #[.int .i64 (i : Int)] 3 (0, 0))) = .ok v' w' ∧ ((w'.cell? ⟨rb, 4, none⟩ = some ev ∧ w'.frozen? ⟨rb, 4, none⟩ = false ∧ rb < w'.heap.size ∧ ∃ a n c, v' = .slice a n c) ∧ ∃ L, Rq tg w (w'.setCell ⟨rb, 4, none⟩ v') rb n fl (rEnd (rTick R c) i 0) av v' L)) := fun ty => by
      obtain ⟨v', w', h1, h2, h3, h4⟩ := app_int (x := (i : Int)) (row_kept HE.out K9.out fun _ _ e => e) (heap_new W9 _) (by rw [List.length_map]; exact S1.out.e) (Nat.zero_le _) ty
      obtain ⟨h5, L4, h6⟩ := Fx.addEnd F4.out K9.out (q := i) h2 h3 h4
      refine ⟨v', w', h1, h5, L4, ?_⟩
      have hR : rEnd (rTick R c) i 0 = { rTick R c with all := (rTick R c).all.set i (⟨⟨x.1.t.f0, x.1.t.f1, x.1.t.f2, c, x.1.t.f4, c, 0, x.1.t.ops⟩, 1, x.1.ts⟩ : Rn), ends := (rTick R c).ends ++ [i] } := by
        unfold rEnd endR endT
        rw [show gR (rTick R c).all i = x.1 from EX.out.symm]
        rfl
      rw [hR]
      exact h6
    obtain ⟨⟨hrl, -, m3, m4⟩, -⟩ := Fx.cells F4.out EA.out
    obtain ⟨ea, ecp, eev, -⟩ := row_shape HE.out
    rw [List.length_map] at eev
    clear HE F4
    obtain rfl := eev
    generalize R.ends.length = el at *
    go_wp2_with (at_builtin; refine wpList_app rfl (.tmp 143) (.tmp 145) 64 rfl _ _ rfl rfl _ HAP.out ?_; rintro v4 w4 ⟨⟨c40, f40, b40, a4, n4, cp4, rfl⟩, L4, ip⟩; have IP : Hid _ := ip; clear ip)
    ((try simp only [Exit.inBlock, Exit.then]); refine bodyPost_ret (results_tmp4 rfl _ _ _) rfl ?_)
    exact ⟨rfl, _, _, L4, IP.out⟩
set_option maxRecDepth 100000 in
set_option maxHeartbeats 3200000 in
theorem rdo_6 {tg : Nat → Ug} {w : World} {rb n : Nat} {fl : Int} {R : Rr} {av ev : Value} {L : List Rt} (h : Rm tg w rb n fl R av ev L) (hs : Sml R) (hc : 0 ≤ R.clock ∧ R.clock ≤ 1099511627776) (se gp : Int) (k v : ByteArray) (hk : k.size ≤ maxLen) (hv : v.size ≤ maxLen) (h0 : rCode n R ⟨6, se, gp, k, v⟩ = 0) (hgp : 0 ≤ gp ∧ gp ≤ 1000) {i : Nat} (ha : rAct R.all se = some i) : RoP tg w rb n fl ⟨6, se, gp, k, v⟩ (rEnd (rTick R (R.clock + 1 + gp)) i 0) ⟨false, e0, 0⟩ 0 := by
  have K0 : Hid (Kept w (w.alloc (stO ⟨6, se, gp, k, v⟩))) := (Same.refl _ w).alloc _
  have G0 : Hid _ := heap_new w (stO ⟨6, se, gp, k, v⟩)
  have Q0 : Hid (Rq tg w (w.alloc (stO ⟨6, se, gp, k, v⟩)) rb n fl R av ev L) := (Rq.start h).on K0.out
  have HRF : Hid (Calls Try.prog 35 #[.pointer (some ⟨rb, 0, none⟩), stA ⟨6, se, gp, k, v⟩] (w.alloc (stO ⟨6, se, gp, k, v⟩)) fun e w' => e = .returned (.int .i64 0) ∧ Kept (w.alloc (stO ⟨6, se, gp, k, v⟩)) w') := by
    obtain ⟨a, cap, ea, hrd⟩ := Rq.rd Q0.out
    have := rrefuse15 hrd hs ⟨6, se, gp, k, v⟩ hk hv
    unfold RfP at this
    rw [h0] at this
    exact this
  obtain ⟨c, ec⟩ : ∃ c, c = R.clock + 1 + gp := ⟨_, rfl⟩
  have S1 : Hid (Sml (rTick R c)) := ⟨hs.n, hs.e, hs.o⟩
  have wr1 : IntKind.i64.wrap (1 + gp) = 1 + gp := by rw [IntKind.wrap_i64] <;> omega
  have wr2 : IntKind.i64.wrap (R.clock + (1 + gp)) = c := by rw [IntKind.wrap_i64] <;> omega
  have wb1 : -9223372036854775808 ≤ 1 + gp ∧ 1 + gp ≤ 9223372036854775807 := by omega
  have wb2 : -9223372036854775808 ≤ R.clock + (1 + gp) ∧ R.clock + (1 + gp) ≤ 9223372036854775807 := by omega
  have EQC : Hid (R.clock + (1 + gp) = c) := (by omega : R.clock + (1 + gp) = c)
  rw [← ec]
  unfold RoP
  have HA : Hid (rAct R.all se = some i) := ha
  have hi : i < R.all.length := by
    obtain ⟨r, h1, -⟩ := rAct_in ha
    exact (List.getElem?_eq_some_iff.1 h1).1
  obtain ⟨x, hx, ex⟩ : ∃ x, L[i]? = some x ∧ x.1 = gR R.all i := by
    have hm := h.map
    have hl : i < L.length := by rw [← hm, List.length_map] at hi; exact hi
    exact ⟨L[i], List.getElem?_eq_getElem hl, by rw [← hm]; exact (gR_of (by rw [List.getElem?_map, List.getElem?_eq_getElem hl]; rfl)).symm⟩
  have HX : Hid (L[i]? = some x) := hx
  have EX : Hid (x.1 = gR R.all i) := ex
  have HI : Hid (i < R.all.length) := hi
  obtain ⟨b, cap, ea⟩ := Rq.place Q0.out hx
  have EA : Hid (av = .slice (some ⟨b, 0, none⟩) L.length cap) := ea
  have OB : Hid (av.ownBlock = some b) := (by rw [ea]; rfl : av.ownBlock = some b)
  have hil := (List.getElem?_eq_some_iff.1 hx).1
  have hln : L.length ≤ 4096 := by have := hs.n; rw [← h.map, List.length_map] at this; exact this
  obtain ⟨pb, epb⟩ : ∃ pb, pb = rPass fl c R.all (gR R.all i).t := ⟨_, rfl⟩
  have EPB : Hid (pb = rPass fl c R.all (gR R.all i).t) := epb
  try rw [← epb]
  obtain ⟨ll, ell⟩ : ∃ ll, ll = L.length := ⟨_, rfl⟩
  rw [← ell] at EA hil hln
  have ELL : Hid (ll = L.length) := ell
  have hi2 : (i : Int) < (ll : Int) := by omega
  have hi3 : decide ((i : Int) < (ll : Int)) = true := decide_eq_true hi2
  clear ha hx ex hi ea epb ell
  clear h hk hv h0 ec
  unfold stA
  simp only
  go_enter Try.func23, Try.ntmps23
  go_upto_region 1 with fail
  generalize w.alloc (stO ⟨6, se, gp, k, v⟩) = W at *
  generalize w.heap.size = g at G0 ⊢
  obtain ⟨c0, c1, c2, c3, c4⟩ := st_cells G0.out
  have hg := lt_of_heap G0.out
  simp only at c0 c1 c2 c3 c4
  go_wp2_with fail
  refine Calls.mono HRF.out ?_
  rintro r2 w2 ⟨rfl, k2⟩
  have Q1 : Hid (Rq tg w w2 rb n fl R av ev L) := Rq.on Q0.out k2
  have G2 : Hid (w2.heap[g]? = some (stO ⟨6, se, gp, k, v⟩)) := (k2.block g hg (fun e => e)).trans G0.out
  clear c0 c1 c2 c3 c4 hg k2 Q0 G0 HRF K0
  obtain ⟨c0, c1, c2, c3, c4⟩ := st_cells G2.out
  have hg := lt_of_heap G2.out
  simp only at c0 c1 c2 c3 c4
  obtain ⟨hrl, ⟨-, -, m2, m3, -⟩, fz⟩ := Rq.cells Q1.out
  have fz2 := fz 2
  clear fz
  go_upto_region 5 with fail
  go_region
  have hgr : g ≠ rb := fun e => by
    obtain ⟨tg1, h1, -⟩ := Rq.ex Q1.out
    subst e
    exact types_ne G2.out h1.obj (by decide)
  have Q2 : Hid (Rq tg w ((w2.setCell ⟨rb, 2, none⟩ (.int .i64 c)).drew) rb n fl (rTick R c) av ev L) := Rq.on (Rq.clock Q1.out c) (Same.refl _ _).drew
  have G3 : Hid ((w2.setCell ⟨rb, 2, none⟩ (.int .i64 c)).drew.heap[g]? = some (stO ⟨6, se, gp, k, v⟩)) := (heap_set (w := w2) (p := ⟨rb, 2, none⟩) (u := .int .i64 c) hgr).trans G2.out
  generalize (w2.setCell ⟨rb, 2, none⟩ (.int .i64 c)).drew = W3 at *
  clear c0 c1 c2 c3 c4 hg m2 m3 fz2 hrl G2 Q1
  obtain ⟨c0, c1, c2, c3, c4⟩ := st_cells G3.out
  have hg := lt_of_heap G3.out
  simp only at c0 c1 c2 c3 c4
  have HAC : Hid (Calls Try.prog 10 #[.pointer (some ⟨rb, 0, none⟩), .int .i64 se] W3 fun e w' => e = .returned (.int .i64 (i : Int)) ∧ w' = W3) := by
    obtain ⟨a, cap, ea, hrd⟩ := Rq.rd Q2.out
    have h9 := ractive15 hrd S1.out.n se
    rw [show rAct (rTick R c).all se = some i from HA.out] at h9
    exact h9
  go_wp2_with fail
  refine Calls.mono HAC.out ?_
  rintro r4 w4 ⟨rfl, e4⟩
  subst e4
  clear HAC
  have HPA : Hid (Calls Try.prog 36 #[.pointer (some ⟨rb, 0, none⟩), .int .i64 (i : Int)] w4 fun e w' => e = .returned (.bool pb) ∧ Kept w4 w') := by
    obtain ⟨a, cap, ea, hrd⟩ := Rq.rd Q2.out
    have h9 := rpasses15 hrd S1.out (i := i) HI.out
    rw [show rPass fl (rTick R c).clock (rTick R c).all (gR (rTick R c).all i).t = pb from EPB.out.symm] at h9
    exact h9
  go_wp2_with fail
  refine Calls.mono HPA.out ?_
  rintro r5 W5 ⟨rfl, k5⟩
  have Q3 : Hid (Rq tg w W5 rb n fl (rTick R c) av ev L) := Rq.on Q2.out k5
  have G5 : Hid (W5.heap[g]? = some (stO ⟨6, se, gp, k, v⟩)) := (k5.block g hg (fun e => e)).trans G3.out
  clear c0 c1 c2 c3 c4 hg k5 Q2 G3 HPA
  obtain ⟨c0, c1, c2, c3, c4⟩ := st_cells G5.out
  have hg := lt_of_heap G5.out
  simp only at c0 c1 c2 c3 c4
  have F0 : Hid (Fx tg w W5 rb n fl (rTick R c) av ev i x.1 x.2 ll) := (by rw [ELL.out]; exact Fx.start Q3.out HX.out)
  clear Q3
  obtain ⟨⟨hrl, m2, m3, -⟩, hbl, hcl, fz⟩ := Fx.cells F0.out EA.out
  have cj := hcl 3 _ (by decide) rfl
  have fj := fz (i * 10 + 3)
  clear hcl fz
  simp only [rTick] at m2
  go_upto_region 21 with fail
  go_region
  have F1 : Hid (Fx tg w (W5.setCell ⟨b, i * 10 + 3, none⟩ (.int .i64 c)).drew rb n fl (rTick R c) av ev i (⟨⟨x.1.t.f0, x.1.t.f1, x.1.t.f2, c, x.1.t.f4, x.1.t.f5, x.1.t.f6, x.1.t.ops⟩, x.1.st, x.1.ts⟩ : Rn) x.2 ll) := Fx.on (Fx.put F0.out OB.out (j := 3) (by decide) (⟨⟨x.1.t.f0, x.1.t.f1, x.1.t.f2, c, x.1.t.f4, x.1.t.f5, x.1.t.f6, x.1.t.ops⟩, x.1.st, x.1.ts⟩ : Rn) rfl rfl rfl) (Same.refl _ _).drew
  generalize (W5.setCell ⟨b, i * 10 + 3, none⟩ (.int .i64 c)).drew = W6 at *
  clear hrl m2 m3 hbl cj fj F0
  obtain ⟨⟨hrl, m2, m3, -⟩, hbl, hcl, fz⟩ := Fx.cells F1.out EA.out
  have cj := hcl 5 _ (by decide) rfl
  have fj := fz (i * 10 + 5)
  clear hcl fz
  simp only [rTick] at m2
  go_upto_region 22 with fail
  go_region
  have F2 : Hid (Fx tg w (W6.setCell ⟨b, i * 10 + 5, none⟩ (.int .i64 c)).drew rb n fl (rTick R c) av ev i (⟨⟨x.1.t.f0, x.1.t.f1, x.1.t.f2, c, x.1.t.f4, c, x.1.t.f6, x.1.t.ops⟩, x.1.st, x.1.ts⟩ : Rn) x.2 ll) := Fx.on (Fx.put F1.out OB.out (j := 5) (by decide) (⟨⟨x.1.t.f0, x.1.t.f1, x.1.t.f2, c, x.1.t.f4, c, x.1.t.f6, x.1.t.ops⟩, x.1.st, x.1.ts⟩ : Rn) rfl rfl rfl) (Same.refl _ _).drew
  generalize (W6.setCell ⟨b, i * 10 + 5, none⟩ (.int .i64 c)).drew = W7 at *
  clear hrl m2 m3 hbl cj fj F1
  obtain ⟨⟨hrl, m2, m3, -⟩, hbl, hcl, fz⟩ := Fx.cells F2.out EA.out
  have cj := hcl 6 _ (by decide) rfl
  have fj := fz (i * 10 + 6)
  clear hcl fz
  simp only [rTick] at m2
  go_upto_region 24 with fail
  skip
  have F3 : Hid (Fx tg w (W7.setCell ⟨b, i * 10 + 6, none⟩ (.int .i64 0)) rb n fl (rTick R c) av ev i (⟨⟨x.1.t.f0, x.1.t.f1, x.1.t.f2, c, x.1.t.f4, c, 0, x.1.t.ops⟩, x.1.st, x.1.ts⟩ : Rn) x.2 ll) := Fx.on (Fx.put F2.out OB.out (j := 6) (by decide) (⟨⟨x.1.t.f0, x.1.t.f1, x.1.t.f2, c, x.1.t.f4, c, 0, x.1.t.ops⟩, x.1.st, x.1.ts⟩ : Rn) rfl rfl rfl) (Same.refl _ _)
  generalize (W7.setCell ⟨b, i * 10 + 6, none⟩ (.int .i64 0)) = W8 at *
  clear hrl m2 m3 hbl cj fj F2
  obtain ⟨⟨hrl, m2, m3, -⟩, hbl, hcl, fz⟩ := Fx.cells F3.out EA.out
  have cj := hcl 8 _ (by decide) rfl
  have fj := fz (i * 10 + 8)
  clear hcl fz
  simp only [rTick] at m2
  go_upto_region 25 with fail
  skip
  have F4 : Hid (Fx tg w (W8.setCell ⟨b, i * 10 + 8, none⟩ (.int .i64 1)) rb n fl (rTick R c) av ev i (⟨⟨x.1.t.f0, x.1.t.f1, x.1.t.f2, c, x.1.t.f4, c, 0, x.1.t.ops⟩, 1, x.1.ts⟩ : Rn) x.2 ll) := Fx.on (Fx.put F3.out OB.out (j := 8) (by decide) (⟨⟨x.1.t.f0, x.1.t.f1, x.1.t.f2, c, x.1.t.f4, c, 0, x.1.t.ops⟩, 1, x.1.ts⟩ : Rn) rfl rfl rfl) (Same.refl _ _)
  generalize (W8.setCell ⟨b, i * 10 + 8, none⟩ (.int .i64 1)) = W9 at *
  clear hrl m2 m3 hbl cj fj F3
  have HE : Hid (OwnI 0 W9 ev (R.ends.map fun i => ((i : Nat) : Int))) := (by have h9 := Fx.ends F4.out; exact h9)
  have K9 : Hid (Kept W9 (W9.alloc (.cells #[.int .i64 (i : Int)] 3 (0, 0)))) := (Same.refl _ W9).alloc _
  have HAP : Hid (∀ ty, ∃ v' w', (Builtin.append_ #[64, 64] ty #[ev, .slice (some ⟨W9.heap.size, 0, none⟩) 1 1]).run Try.prog (W9.alloc (.cells #[.int .i64 (i : Int)] 3 (0, 0))) = .ok v' w' ∧ ((w'.cell? ⟨rb, 4, none⟩ = some ev ∧ w'.frozen? ⟨rb, 4, none⟩ = false ∧ rb < w'.heap.size ∧ ∃ a n c, v' = .slice a n c) ∧ ∃ L, Rq tg w (w'.setCell ⟨rb, 4, none⟩ v') rb n fl (rEnd (rTick R c) i 0) av v' L)) := fun ty => by
    obtain ⟨v', w', h1, h2, h3, h4⟩ := app_int (x := (i : Int)) (row_kept HE.out K9.out fun _ _ e => e) (heap_new W9 _) (by rw [List.length_map]; exact S1.out.e) (Nat.zero_le _) ty
    obtain ⟨h5, L4, h6⟩ := Fx.addEnd F4.out K9.out (q := i) h2 h3 h4
    refine ⟨v', w', h1, h5, L4, ?_⟩
    have hR : rEnd (rTick R c) i 0 = { rTick R c with all := (rTick R c).all.set i (⟨⟨x.1.t.f0, x.1.t.f1, x.1.t.f2, c, x.1.t.f4, c, 0, x.1.t.ops⟩, 1, x.1.ts⟩ : Rn), ends := (rTick R c).ends ++ [i] } := by
      unfold rEnd endR endT
      rw [show gR (rTick R c).all i = x.1 from EX.out.symm]
      rfl
    rw [hR]
    exact h6
  obtain ⟨⟨hrl, -, m3, m4⟩, -⟩ := Fx.cells F4.out EA.out
  obtain ⟨ea, ecp, eev, -⟩ := row_shape HE.out
  rw [List.length_map] at eev
  clear HE F4
  obtain rfl := eev
  generalize R.ends.length = el at *
  go_wp2_with (at_builtin; refine wpList_app rfl (.tmp 143) (.tmp 145) 64 rfl _ _ rfl rfl _ HAP.out ?_; rintro v4 w4 ⟨⟨c40, f40, b40, a4, n4, cp4, rfl⟩, L4, ip⟩; have IP : Hid _ := ip; clear ip)
  ((try simp only [Exit.inBlock, Exit.then]); refine bodyPost_ret (results_tmp4 rfl _ _ _) rfl ?_)
  exact ⟨rfl, _, _, L4, IP.out⟩
end Go.Proofs.Ytmghmacgljihcaa
