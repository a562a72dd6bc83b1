/- What is proved: the document's tree in memory, and what its New, Feed and Finish answer and leave; the tree is one that its New made. -/
import Derived.Test.YtolaeiagfnhllaaTFeed
import Derived.Test.YtolaeiagfnhllaaQValR
namespace Go.Proofs.Ytolaeiagfnhllaa
open Go.RowKit

theorem rc1_len (r : RwM) : (rc1 r).length = 7 := rfl
theorem rwc_at {R : List RwM} {i : Nat} (h : i < R.length) (j : Nat) (hj : j < 7) : (rwc R)[i * 7 + j]? = (rc1 (R.getD i r0))[j]? := by
  rw [getD_at' h]
  exact rwc_get (List.getElem?_eq_getElem h) j hj
theorem rwc_set (R : List RwM) (i : Nat) (h : i < R.length) (r : RwM) :
    (((((((rwc R).set (i * 7) (.int .i64 r.kind)).set (i * 7 + 1) (.int .i64 r.time)).set (i * 7 + 2) (.int .i64 r.seq)).set (i * 7 + 3) (.int .i64 r.index)).set (i * 7 + 4) (.int .i64 r.frm)).set (i * 7 + 5) (.int .i64 r.til)).set (i * 7 + 6) (.string r.body) = rwc (R.set i r) := by
  induction R generalizing i with
  | nil => simp at h
  | cons a R ih =>
    cases i with
    | zero => rfl
    | succ i =>
      have hi : i < R.length := by simpa using h
      have e : ∀ j (l : List Value) v, (rc1 a ++ l).set ((i + 1) * 7 + j) v = rc1 a ++ l.set (i * 7 + j) v := fun j l v => by
        rw [List.set_append_right _ _ (by rw [rc1_len]; omega), rc1_len, show (i + 1) * 7 + j - 7 = i * 7 + j by omega]
      have e0 := fun l v => e 0 l v
      simp only [Nat.add_zero] at e0
      rw [List.set_cons_succ, rwc_cons, rwc_cons, e0, e 1, e 2, e 3, e 4, e 5, e 6, ih i hi]
/-- A row written over, within a list. -/
def putW (w : World) (g o : Nat) (r : RwM) : World := ((((((w.setCell ⟨g, o, none⟩ (.int .i64 r.kind)).setCell ⟨g, o + 1, none⟩ (.int .i64 r.time)).setCell ⟨g, o + 2, none⟩ (.int .i64 r.seq)).setCell ⟨g, o + 3, none⟩ (.int .i64 r.index)).setCell ⟨g, o + 4, none⟩ (.int .i64 r.frm)).setCell ⟨g, o + 5, none⟩ (.int .i64 r.til)).setCell ⟨g, o + 6, none⟩ (.string r.body)
theorem putW_same (w : World) (g o : Nat) (r : RwM) : Same (fun k => k = g) w (putW w g o r) :=
  (((((((Same.refl (fun k => k = g) w).setCell ⟨g, o, none⟩ (.inr rfl) _).setCell ⟨g, o + 1, none⟩ (.inr rfl) _).setCell ⟨g, o + 2, none⟩ (.inr rfl) _).setCell ⟨g, o + 3, none⟩ (.inr rfl) _).setCell ⟨g, o + 4, none⟩ (.inr rfl) _).setCell ⟨g, o + 5, none⟩ (.inr rfl) _).setCell ⟨g, o + 6, none⟩ (.inr rfl) _
theorem putW_at {w : World} {g : Nat} {R : List RwM} {ty : TypeId} (h : w.heap[g]? = some (.cells (rwc R).toArray ty (0, 0))) {i : Nat} (hi : i < R.length) (r : RwM) : (putW w g (i * 7) r).heap[g]? = some (.cells (rwc (R.set i r)).toArray ty (0, 0)) := by
  unfold putW
  rw [setCell_at (setCell_at (setCell_at (setCell_at (setCell_at (setCell_at (setCell_at h _ _) _ _) _ _) _ _) _ _) _ _) _ _, ← rwc_set R i hi r]
  simp
/-- The document's tree in block rb, how its sources stand in block rs, their rows in block rr. -/
structure RT (w : World) (rb rs rr : Nat) (order : Int) (S : List Sr) (R : List RwM) : Prop where
  obj : w.heap[rb]? = some (.cells #[.int .i64 order, .slice (some ⟨rs, 0, none⟩) S.length S.length, .slice (some ⟨rr, 0, none⟩) S.length S.length] 65 (0, 0))
  st : w.heap[rs]? = some (.cells (inz (S.map Sr.code)).toArray 3 (0, 0))
  row : w.heap[rr]? = some (.cells (rwc R).toArray 41 (0, 0))
  len : R.length = S.length
  fed : ∀ i r, i < S.length → S.getD i .wait = .fed r → R.getD i r0 = r
  k0 : 0 < S.length
  k1 : S.length ≤ 64
theorem RT.onS {T : Nat → Prop} {w w' : World} {rb rs rr : Nat} {order : Int} {S : List Sr} {R : List RwM} (h : RT w rb rs rr order S R) (k : Same T w w') (h1 : ¬ T rb) (h2 : ¬ T rs) (h3 : ¬ T rr) : RT w' rb rs rr order S R :=
  ⟨(k.block _ (lt_of_heap h.obj) h1).trans h.obj, (k.block _ (lt_of_heap h.st) h2).trans h.st, (k.block _ (lt_of_heap h.row) h3).trans h.row, h.len, h.fed, h.k0, h.k1⟩
theorem RT.on {w w' : World} {rb rs rr : Nat} {order : Int} {S : List Sr} {R : List RwM} (h : RT w rb rs rr order S R) (k : Kept w w') : RT w' rb rs rr order S R := h.onS k (fun e => e) (fun e => e) (fun e => e)
theorem RT.ne {w : World} {rb rs rr : Nat} {order : Int} {S : List Sr} {R : List RwM} (h : RT w rb rs rr order S R) : rb ≠ rs ∧ rb ≠ rr ∧ rs ≠ rr := by
  refine ⟨?_, ?_, ?_⟩
  · rintro rfl; have := h.obj.symm.trans h.st; simp at this
  · rintro rfl; have := h.obj.symm.trans h.row; simp at this
  · rintro rfl; have := h.st.symm.trans h.row; simp at this
theorem RT.cells {w : World} {rb rs rr : Nat} {order : Int} {S : List Sr} {R : List RwM} (h : RT w rb rs rr order S R) :
    (w.cell? ⟨rb, 0, none⟩ = some (.int .i64 order) ∧ w.cell? ⟨rb, 1, none⟩ = some (.slice (some ⟨rs, 0, none⟩) S.length S.length) ∧ w.cell? ⟨rb, 2, none⟩ = some (.slice (some ⟨rr, 0, none⟩) S.length S.length)) ∧ rb < w.heap.size ∧ rs < w.heap.size ∧ rr < w.heap.size :=
  ⟨⟨(cell_of h.obj 0).trans rfl, (cell_of h.obj 1).trans rfl, (cell_of h.obj 2).trans rfl⟩, lt_of_heap h.obj, lt_of_heap h.st, lt_of_heap h.row⟩
theorem RT.st_at {w : World} {rb rs rr : Nat} {order : Int} {S : List Sr} {R : List RwM} (h : RT w rb rs rr order S R) {i : Nat} (hi : i < S.length) : w.cell? ⟨rs, i, none⟩ = some (.int .i64 (S.getD i .wait).code) ∧ w.frozen? ⟨rs, i, none⟩ = false := by
  refine ⟨?_, frozen_of h.st _⟩
  have := inz_get (L := S.map Sr.code) (i := i) (by simpa using hi)
  rw [cell_of h.st]
  rw [show ((inz (S.map Sr.code)).toArray)[i]? = (inz (S.map Sr.code))[i]? by simp, this, getD_at' (by simpa using hi), getD_at' hi]
  simp
theorem RT.row_at {w : World} {rb rs rr : Nat} {order : Int} {S : List Sr} {R : List RwM} (h : RT w rb rs rr order S R) {i : Nat} (hi : i < S.length) {r : RwM} (hr : R.getD i r0 = r) :
    w.cell? ⟨rr, i * 7, none⟩ = some (.int .i64 r.kind) ∧ w.cell? ⟨rr, i * 7 + 1, none⟩ = some (.int .i64 r.time) ∧ w.cell? ⟨rr, i * 7 + 2, none⟩ = some (.int .i64 r.seq) ∧ w.cell? ⟨rr, i * 7 + 3, none⟩ = some (.int .i64 r.index) ∧ w.cell? ⟨rr, i * 7 + 4, none⟩ = some (.int .i64 r.frm) ∧ w.cell? ⟨rr, i * 7 + 5, none⟩ = some (.int .i64 r.til) ∧ w.cell? ⟨rr, i * 7 + 6, none⟩ = some (.string r.body) := by
  subst hr
  have e : ∀ j, j < 7 → w.cell? ⟨rr, i * 7 + j, none⟩ = (rc1 (R.getD i r0))[j]? := fun j hj => by
    rw [cell_of h.row, ← rwc_at (by rw [h.len]; exact hi) j hj]
    simp
  exact ⟨e 0 (by decide), e 1 (by decide), e 2 (by decide), e 3 (by decide), e 4 (by decide), e 5 (by decide), e 6 (by decide)⟩
/-- The blocks of the document's tree. -/
abbrev RF (rb rs rr : Nat) : Nat → Prop := fun k => k = rb ∨ k = rs ∨ k = rr
theorem RT.put {w : World} {rb rs rr : Nat} {order : Int} {S : List Sr} {R : List RwM} (h : RT w rb rs rr order S R) {i : Nat} (hi : i < S.length) {s : Sr} {r : RwM} (hs : ∀ x, s = .fed x → r = x) :
    RT (putW (w.setCell ⟨rs, i, none⟩ (.int .i64 s.code)) rr (i * 7) r) rb rs rr order (S.set i s) (R.set i r) ∧ Same (RF rb rs rr) w (putW (w.setCell ⟨rs, i, none⟩ (.int .i64 s.code)) rr (i * 7) r) := by
  obtain ⟨n1, n2, n3⟩ := h.ne
  have s1 : Same (fun k => k = rs) w (w.setCell ⟨rs, i, none⟩ (.int .i64 s.code)) := (Same.refl (fun k => k = rs) _).setCell ⟨rs, i, none⟩ (.inr rfl) _
  have s2 := putW_same (w.setCell ⟨rs, i, none⟩ (.int .i64 s.code)) rr (i * 7) r
  have eb := (s1.block rb (lt_of_heap h.obj) n1).trans h.obj
  have er := (s1.block rr (lt_of_heap h.row) (Ne.symm n3)).trans h.row
  have es := setCell_at h.st i (.int .i64 s.code)
  refine ⟨⟨?_, ?_, putW_at er (by rw [h.len]; exact hi) r, by rw [List.length_set, List.length_set]; exact h.len, fun j x hj hx => ?_, by rw [List.length_set]; exact h.k0, by rw [List.length_set]; exact h.k1⟩, (s1.mono fun k _ e => .inr (.inl e)).trans s2 fun k _ e => .inr (.inr e)⟩
  · rw [List.length_set]
    exact (s2.block rb (lt_of_heap eb) n2).trans eb
  · have := (s2.block rs (lt_of_heap es) n3).trans es
    rw [this, List.map_set, inz_set]
    simp
  · rw [List.length_set] at hj
    by_cases e : i = j
    · subst e
      rw [getD_set_eq' hi] at hx
      rw [getD_set_eq' (by rw [h.len]; exact hi)]
      exact hs x hx
    · rw [getD_set_ne' e] at hx ⊢
      exact h.fed j x hj hx
theorem RT.setS {w : World} {rb rs rr : Nat} {order : Int} {S : List Sr} {R : List RwM} (h : RT w rb rs rr order S R) {i : Nat} :
    RT (w.setCell ⟨rs, i, none⟩ (.int .i64 0)) rb rs rr order (S.set i .wait) R ∧ Same (RF rb rs rr) w (w.setCell ⟨rs, i, none⟩ (.int .i64 0)) := by
  obtain ⟨n1, n2, n3⟩ := h.ne
  have s1 : Same (fun k => k = rs) w (w.setCell ⟨rs, i, none⟩ (.int .i64 0)) := (Same.refl (fun k => k = rs) _).setCell ⟨rs, i, none⟩ (.inr rfl) _
  refine ⟨⟨by rw [List.length_set]; exact (s1.block rb (lt_of_heap h.obj) n1).trans h.obj, ?_, (s1.block rr (lt_of_heap h.row) (Ne.symm n3)).trans h.row, by rw [List.length_set]; exact h.len, fun j x hj hx => ?_, by rw [List.length_set]; exact h.k0, by rw [List.length_set]; exact h.k1⟩, s1.mono fun k _ e => .inr (.inl e)⟩
  · rw [setCell_at h.st, List.map_set, inz_set]
    simp [Sr.code]
  · rw [List.length_set] at hj
    by_cases e : i = j
    · subst e
      rw [getD_set_eq' hj] at hx
      cases hx
    · rw [getD_set_ne' e] at hx
      exact h.fed j x hj hx
/-- What put answers. -/
def putC (S : List Sr) (i : Int) (r : RwM) (st : Int) : Int := if refC S i ≠ 0 then refC S i else if st = 1 ∧ ¬ rightR r then 90 else 0
set_option maxRecDepth 100000 in
set_option maxHeartbeats 4000000 in
theorem rput11 {w : World} {rb rs rr : Nat} {order : Int} {S : List Sr} {R : List RwM} (h : RT w rb rs rr order S R) (i : Int) (r : RwM) (s : Sr) (hs : s = .fed r ∨ s = .fin) :
    Calls Try.prog 33 #[.pointer (some ⟨rb, 0, none⟩), .int .i64 i, rowV r, .int .i64 s.code] w fun e w' => e = .returned (.int .i64 (putC S i r s.code)) ∧ (∃ R', RT w' rb rs rr order (if putC S i r s.code = 0 then S.set i.toNat s else S) R') ∧ Same (RF rb rs rr) w w' := by
  have HH : Hid _ := h
  have HV : Hid (∀ W, _) := fun W => validR9_any r W
  have KB : Hid (Kept w (w.alloc (.cells #[.int .i64 r.kind, .int .i64 r.time, .int .i64 r.seq, .int .i64 r.index, .int .i64 r.frm, .int .i64 r.til, .string r.body] 41))) := (Same.refl _ w).alloc _
  have HBX : Hid _ := heap_new w (.cells #[.int .i64 r.kind, .int .i64 r.time, .int .i64 r.seq, .int .i64 r.index, .int .i64 r.frm, .int .i64 r.til, .string r.body] 41)
  obtain ⟨⟨c0, c1, c2⟩, hb, hrs, hrr⟩ := h.cells
  have hk1 := h.k1
  by_cases h1 : i < 0 ∨ (S.length : Int) ≤ i
  · have ec : putC S i r s.code = 111 := by unfold putC; rw [if_pos (by unfold refC; rw [if_pos h1]; decide)]; unfold refC; rw [if_pos h1]
    rw [ec, if_neg (by decide)]
    have HL : Hid _ := h1
    clear h1 h hs ec
    generalize s.code = sc at *
    generalize S.length = n at *
    obtain ⟨kind, time, seq, index, frm, til, body⟩ := r
    unfold rowV
    simp only at *
    by_cases g1 : i < 0
    · have d1 : decide (i < 0) = true := decide_eq_true g1
      go_enter Try.func33, Try.ntmps33
      go_wp2_with fail
      go_ret
      exact ⟨rfl, ⟨R, HH.out.on KB.out⟩, KB.out.to _⟩
    · have d1 : decide (i < 0) = false := decide_eq_false g1
      have g2 : (n : Int) ≤ i := by have := HL.out; omega
      have d2 : decide ((n : Int) ≤ i) = true := decide_eq_true g2
      go_enter Try.func33, Try.ntmps33
      go_wp2_with fail
      go_ret
      exact ⟨rfl, ⟨R, HH.out.on KB.out⟩, KB.out.to _⟩
  · obtain ⟨x, rfl⟩ : ∃ x : Nat, i = (x : Int) := ⟨i.toNat, by omega⟩
    have hx : x < S.length := by omega
    have d1 : decide ((x : Int) < 0) = false := decide_eq_false (by omega)
    have d2 : decide ((S.length : Int) ≤ (x : Int)) = false := decide_eq_false (by omega)
    have hxn : (x : Int) < (S.length : Int) := by omega
    obtain ⟨q0, qf⟩ := h.st_at hx
    have hrc : refC S x = if (S.getD x .wait).wt = true then 0 else 112 := by unfold refC; rw [if_neg h1, show ((x : Nat) : Int).toNat = x by omega]
    cases hw : (S.getD x .wait).wt
    · rw [hw, if_neg (by decide)] at hrc
      have ec : putC S x r s.code = 112 := by unfold putC; rw [hrc, if_pos (by decide)]
      rw [ec, if_neg (by decide)]
      have g0 : ((S.getD x .wait).code != 0) = true := by
        have := Sr.code_zero (s := S.getD x .wait)
        rw [hw] at this
        simpa using this
      clear h1 h hs ec hw hrc
      generalize (S.getD x .wait).code = oc at *
      generalize s.code = sc at *
      generalize S.length = n at *
      obtain ⟨kind, time, seq, index, frm, til, body⟩ := r
      unfold rowV
      simp only at *
      go_enter Try.func33, Try.ntmps33
      go_wp2_with fail
      go_ret
      exact ⟨rfl, ⟨R, HH.out.on KB.out⟩, KB.out.to _⟩
    · rw [hw, if_pos rfl] at hrc
      rw [Sr.code_zero.2 hw] at q0
      have HP : Hid (∀ W, Kept w W → RT (putW (W.setCell ⟨rs, x, none⟩ (.int .i64 s.code)) rr (x * 7) r) rb rs rr order (S.set x s) (R.set x r) ∧ Same (RF rb rs rr) w (putW (W.setCell ⟨rs, x, none⟩ (.int .i64 s.code)) rr (x * 7) r)) := fun W k => by
        have := (h.on k).put hx (s := s) (r := r) fun y hy => by
          rcases hs with e | e
          · rw [e] at hy; cases hy; rfl
          · rw [e] at hy; cases hy
        exact ⟨this.1, (k.to _).trans' this.2⟩
      have HC : Hid (∀ W, Kept w W → (W.cell? ⟨rb, 1, none⟩ = some (.slice (some ⟨rs, 0, none⟩) S.length S.length) ∧ W.cell? ⟨rb, 2, none⟩ = some (.slice (some ⟨rr, 0, none⟩) S.length S.length)) ∧ (rb < W.heap.size ∧ rs < W.heap.size ∧ rr < W.heap.size) ∧ W.cell? ⟨rs, x, none⟩ = some (.int .i64 0) ∧ W.frozen? ⟨rs, x, none⟩ = false ∧ (∀ o, W.frozen? ⟨rr, o, none⟩ = false) ∧ _) := fun W (k : Kept w W) => by
        have h' := h.on k
        obtain ⟨⟨-, e1, e2⟩, e3⟩ := h'.cells
        obtain ⟨e4, e5⟩ := h'.st_at hx
        rw [Sr.code_zero.2 hw] at e4
        exact ⟨⟨e1, e2⟩, e3, e4, e5, fun o => frozen_of h'.row o, h'.row_at hx rfl⟩
      obtain ⟨n1, n2, n3⟩ := h.ne
      generalize R.getD x r0 = orw at *
      have HSX : Hid (((x : Nat) : Int).toNat = x) := by show _ = _; omega
      by_cases hr : s = .fed r ∧ ¬ rightR r
      · have ec : putC S x r s.code = 90 := by unfold putC; rw [if_neg (fun e => e hrc), if_pos ⟨by rw [hr.1]; rfl, hr.2⟩]
        rw [ec, if_neg (by decide)]
        rw [decide_eq_false hr.2] at HV
        obtain ⟨rfl, -⟩ := hr
        clear h1 h hs ec hw hrc HC HP
        generalize S.length = n at *
        obtain ⟨kind, time, seq, index, frm, til, body⟩ := r
        unfold rowV at *
        simp only [Sr.code] at *
        go_enter Try.func33, Try.ntmps33
        go_wp2_with fail
        refine Calls.mono (HV.out _) ?_
        rintro e w1 ⟨rfl, k1⟩
        have K1 : Hid _ := KB.out.trans' k1
        clear k1
        go_wp2_with fail
        go_ret
        exact ⟨rfl, ⟨R, HH.out.on K1.out⟩, Kept.to K1.out _⟩
      · have ec : putC S x r s.code = 0 := by
          unfold putC
          rw [if_neg (fun e => e hrc), if_neg]
          rintro ⟨e1, e2⟩
          rcases hs with e | e
          · exact hr ⟨e, e2⟩
          · rw [e] at e1; cases e1
        rw [ec, if_pos rfl, HSX.out]
        rcases hs with rfl | rfl
        · have hr' : rightR r := Classical.byContradiction fun e => hr ⟨rfl, e⟩
          rw [decide_eq_true hr'] at HV
          clear h1 h ec hw hrc hr hr' q0 qf c0 c1 c2 hb hrs hrr
          generalize S.set x (.fed r) = S' at *
          generalize R.set x r = R' at *
          generalize S.length = n at *
          obtain ⟨kind, time, seq, index, frm, til, body⟩ := r
          unfold rowV putW at *
          simp only [Sr.code] at *
          obtain ⟨⟨c1, c2⟩, ⟨hb, hrs, hrr⟩, q0, qf, fz, p0, p1, p2, p3, p4, p5, p6⟩ := HC.out w (Same.refl _ _)
          go_enter Try.func33, Try.ntmps33
          go_wp2_with fail
          refine Calls.mono (HV.out _) ?_
          rintro e w1 ⟨rfl, k1⟩
          have K1 : Hid _ := KB.out.trans' k1
          have hb1 := (k1.block _ (lt_of_heap HBX.out) (fun e => e)).trans HBX.out
          have hne : w.heap.size ≠ rs ∧ w.heap.size ≠ rr := ⟨by omega, by omega⟩
          have hl1 := lt_of_heap hb1
          clear c1 c2 hb hrs hrr q0 qf fz p0 p1 p2 p3 p4 p5 p6
          obtain ⟨⟨c1, c2⟩, ⟨hb, hrs, hrr⟩, q0, qf, fz, p0, p1, p2, p3, p4, p5, p6⟩ := HC.out w1 K1.out
          obtain ⟨⟨y0, y1, y2, y3, y4, y5, y6⟩, -⟩ := row_obj hb1
          have R1 : Hid _ := HP.out w1 K1.out
          clear k1 HV HBX hb1 HC HP KB HH
          go_wp2_with fail
          go_region
          all_goals (go_wp2_with fail)
          all_goals go_ret
          all_goals (exact ⟨rfl, ⟨R', R1.out.1.on (Same.refl _ _).drew⟩, R1.out.2.drew⟩)
        · clear h1 h ec hw hrc hr q0 qf c0 c1 c2 hb hrs hrr HV
          have R1 : Hid (RT (putW (w.setCell ⟨rs, x, none⟩ (.int .i64 (Sr.fin).code)) rr (x * 7) r) rb rs rr order (S.set x .fin) (R.set x r) ∧ Same (RF rb rs rr) w (putW (w.setCell ⟨rs, x, none⟩ (.int .i64 (Sr.fin).code)) rr (x * 7) r)) := HP.out w (Same.refl _ _)
          generalize S.set x .fin = S' at *
          generalize R.set x r = R' at *
          generalize S.length = n at *
          obtain ⟨kind, time, seq, index, frm, til, body⟩ := r
          unfold rowV putW at *
          simp only [Sr.code] at *
          obtain ⟨⟨c1, c2⟩, ⟨hb, hrs, hrr⟩, q0, qf, fz, p0, p1, p2, p3, p4, p5, p6⟩ := HC.out w (Same.refl _ _)
          clear HBX HC HP KB HH
          go_enter Try.func33, Try.ntmps33
          go_wp2_with fail
          go_region
          all_goals (go_wp2_with fail)
          all_goals go_ret
          all_goals (exact ⟨rfl, ⟨R', R1.out.1.on (((Same.refl _ _).alloc _).drew)⟩, (R1.out.2.alloc _).drew⟩)
end Go.Proofs.Ytolaeiagfnhllaa
