/- What is proved: the document's op over its cursor; the cursor lies in memory. -/
import Derived.Test.YtmajfclkhjnahaaRRefS
import Derived.Test.YtmajfclkhjnahaaROps
namespace Go.Proofs.Ytmajfclkhjnahaa
open Go.RowKit

/-- What the document's op answers and leaves: the operation, or the fault and its place. -/
def OrP (w : World) (rb : Nat) (a : Option Addr) (cap : Nat) (l : List Int) (pl : Nat) (e : Ending) (w' : World) : Prop :=
  Same (fun k => k = rb) w w' ∧ match run pgO (l.drop pl) pl with
    | .error (p, z) => ∃ k s f v, e = .returned (.tuple #[.agg #[.int .i64 k, .string s, .bool f, .string v], .int .i64 (p : Int), .int .i64 z])
    | .ok (o, q) => e = .returned (.tuple #[opV o, .int .i64 0, .int .i64 0]) ∧ RC w' rb a cap l q 0
theorem results_ctt {fn : Func} {a t u s : Nat} {P : Program} {w : World} {tmps : Array Value} {ad : Addr} {v : Value} (h : fn.results = #[.cell a t, .tmp u, .tmp s]) (ha : tmps.getD a undef = .pointer (some ad)) (hv : (loadVar t ad).run P w = .ok v w) : (results fn tmps).run P w = .ok (.tuple #[v, tmps.getD u undef, tmps.getD s undef]) w := by
  have ha' : tmps[a]?.getD undef = .pointer (some ad) := by simpa using ha
  simp [results, h, ha', asAddr, hv]
theorem RC.keptN {S : Nat → Prop} {w w' : World} {cb : Nat} {a : Option Addr} {cap : Nat} {l : List Int} {pl : Nat} {ft : Int} (h : RC w cb a cap l pl ft) (hs : Same S w w') (h1 : ¬ S cb) (h2 : ∀ k, InB a l.length k → ¬ S k) : RC w' cb a cap l pl ft := h.kept hs h1 h2
/-- Blocks of an operation that are there, and stay. -/
theorem Same.op {S : Nat → Prop} {w w1 : World} {b : Nat} {v0 v1 v2 v3 : Value} (hs : Same S w w1) (h : w.heap[b]? = some (opO v0 v1 v2 v3)) (hn : ¬ S b) : w1.heap[b]? = some (opO v0 v1 v2 v3) := (hs.block _ (lt_of_heap h) hn).trans h
section
variable {w : World} {rb : Nat} {a : Option Addr} {cap : Nat} {l : List Int} {pl : Nat}
theorem rtag_byte : (rd .tg (l.drop pl) = .error 51 ∧ rByte l pl 0 = ((0, 51), (pl, 51))) ∨ ∃ (x : Int) (r : List Int), l.drop pl = x :: r ∧ rByte l pl 0 = ((x, 0), (pl + 1, 0)) := by
  cases hr : l.drop pl with
  | nil => exact .inl ⟨rfl, rByte_nil hr⟩
  | cons x r => exact .inr ⟨x, r, rfl, rByte_cons hr⟩
set_option maxRecDepth 100000 in
set_option maxHeartbeats 6400000 in
theorem op_ref (h : RC w rb a cap l pl 0) : Calls Try.prog 48 #[.pointer (some ⟨rb, 0, none⟩)] w (OrP w rb a cap l pl) := by
  have hne : w.heap.size ≠ rb := by have := h.lt; omega
  have hne1 : w.heap.size + 1 ≠ rb := by have := h.lt; omega
  have hlt := h.lt
  have HG : Hid (∀ k, InB a l.length k → k < w.heap.size) := fun k => h.data.lt
  have H1 : Hid (∀ W, Kept w W → _) := fun W (k : Kept w W) => step_byte (h.on k) 0 0
  have H2 : Hid (∀ W q, RC W rb a cap l q 0 → _) := fun W q (u : RC W rb a cap l q 0) => step_text u 1 8
  have H3 : Hid (∀ W q, RC W rb a cap l q 0 → _) := fun W q (u : RC W rb a cap l q 0) => step_text u 0 16
  have HR2 : Hid (∀ q, q ≤ l.length → rText l q 0 1 8 = _) := fun q hq => rText_rd l q 1 8 hq
  have HR3 : Hid (∀ q, q ≤ l.length → rText l q 0 0 16 = _) := fun q hq => rText_rd l q 0 16 hq
  obtain ⟨-, cc1, -, -, -⟩ := h.cells
  rcases rtag_byte (l := l) (pl := pl) with ⟨hrd, hrb⟩ | ⟨x, r, hxr, hrb⟩
  · rw [hrb] at H1
    have HQ : Hid (run pgO (l.drop pl) pl = .error (pl, 51)) := run_ask_err hrd
    simp only at H1
    clear h hrd hrb
    go_enter Try.func48, Try.ntmps48
    go_wp2_with fail
    refine Calls.mono (H1.out _ (((Same.refl _ w).alloc _).alloc _)) ?_
    rintro e w1 ⟨rfl, u1, s1⟩
    obtain ⟨b1, b2⟩ := Same.two s1 hne hne1
    obtain ⟨⟨p0, p1, p2, p3⟩, r0, r1, r2, r3⟩ := op_obj b1
    obtain ⟨⟨d0, d1, d2, d3⟩, f0, f1, f2, f3⟩ := op_obj b2
    have S1 : Hid (Same (fun k => k = rb) w w1) := (((Same.refl _ w).alloc _).alloc _).trans' s1
    have B1 : Hid _ := b1
    clear u1 s1 b1 b2
    go_wp2_with fail
    refine bodyPost_ret (results_ctt (a := 2) (t := 60) (u := 3) (s := 4) rfl rfl (loadVar_op (put4_at B1.out _ _ _ _))) rfl ⟨?_, ?_⟩
    · exact S1.out.trans (put4_same _ _ _ _ _ _) (fun i hi e => by omega)
    · rw [HQ.out]
      exact ⟨_, _, _, _, rfl⟩
  rw [hrb] at H1
  obtain ⟨x0, x1⟩ := Byts.get h.byts (i := pl) (x := x) (by have := congrArg (fun z => z[0]?) hxr; simpa using this)
  simp only at H1
  by_cases hx : 1 ≤ x ∧ x ≤ 4
  · have HQ : Hid (run pgO (l.drop pl) pl = _) := run_ask_ok (I := .tg) (x := (x.toNat, [])) (n := 1) (by rw [hxr]; simp only [rd]; rw [if_pos hx])
    rw [List.drop_drop] at HQ
    have hp1 : pl + 1 ≤ l.length := by
      have := congrArg List.length hxr
      simp at this
      omega
    have HP1 : Hid _ := hp1
    have hx4 : x = 1 ∨ x = 2 ∨ x = 3 ∨ x = 4 := by omega
    clear h hrb hxr x0 x1 hx hp1
    rcases hx4 with rfl | rfl | rfl | rfl
    · generalize eP : pl + 1 = P at H1 HQ HP1
      clear eP
      go_enter Try.func48, Try.ntmps48
      go_wp2_with fail
      refine Calls.mono (H1.out _ (((Same.refl _ w).alloc _).alloc _)) ?_
      rintro e w1 ⟨rfl, u1, s1⟩
      obtain ⟨b1, b2⟩ := Same.two s1 hne hne1
      obtain ⟨⟨p0, p1, p2, p3⟩, r0, r1, r2, r3⟩ := op_obj b1
      obtain ⟨⟨d0, d1, d2, d3⟩, f0, f1, f2, f3⟩ := op_obj b2
      obtain ⟨-, cc2, -, -, -⟩ := u1.cells
      have S1 : Hid (Same (fun k => k = rb) w w1) := (((Same.refl _ w).alloc _).alloc _).trans' s1
      have B1 : Hid _ := b1
      have B2 : Hid _ := b2
      have U1 : Hid _ := u1
      clear u1 s1 b1 b2
      go_wp2_with fail
      have e2 : (w1.setCell ⟨w.heap.size + 1, 2, none⟩ (.bool true)).heap[w.heap.size + 1]? = some (opO (.int .i64 1) (.string ⟨#[]⟩) (.bool true) (.string ⟨#[]⟩)) := (setCell_at B2.out 2 _).trans (by simp [opO])
      have sX : Same (fun k => k = w.heap.size + 1) w1 (w1.setCell ⟨w.heap.size + 1, 2, none⟩ (.bool true)) := Same.setCell (S := fun k => k = w.heap.size + 1) (Same.refl _ w1) _ (.inr rfl) _
      have U2 : Hid _ := U1.out.kept sX (fun e => hne1 e.symm) (fun k hk e => by have := HG.out k hk; omega)
      have B3 : Hid _ := sX.op B1.out (by omega)
      have B4 : Hid _ := e2
      have S2 : Hid (Same (fun k => k = rb) w (w1.setCell ⟨w.heap.size + 1, 2, none⟩ (.bool true))) := S1.out.trans sX (fun i hi e => by omega)
      clear e2 sX
      refine Calls.mono (H2.out _ _ U2.out) ?_
      rintro e w2 ⟨a2, q2, rfl, bb2, na2, nn2, u2, s2⟩
      have g1 := s2.op B3.out hne
      have g2 := s2.op B4.out hne1
      have S3 : Hid (Same (fun k => k = rb) w w2) := S2.out.trans' s2
      have G1 : Hid _ := g1
      have G2 : Hid _ := g2
      clear p0 p1 p2 p3 r0 r1 r2 r3 d0 d1 d2 d3 f0 f1 f2 f3 cc2
      obtain ⟨⟨p0, p1, p2, p3⟩, r0, r1, r2, r3⟩ := op_obj g1
      obtain ⟨⟨d0, d1, d2, d3⟩, f0, f1, f2, f3⟩ := op_obj g2
      rw [HR2.out P HP1.out] at bb2 nn2 u2 ⊢
      clear g1 g2 s2
      rcases h2 : rd (.tx 1 8) (l.drop P) with z | ⟨⟨y, k⟩, n2⟩
      · rw [h2] at bb2 nn2 u2
        simp only at bb2 nn2 u2 ⊢
        have hz := rd_nz h2
        have hz' : (z != 0) = true := by simpa using hz
        have HQ2 : Hid _ := HQ.out.trans (run_ask_err h2)
        clear bb2 na2 nn2 u2 h2 hz
        go_wp2_with fail
        refine bodyPost_ret (results_ctt (a := 2) (t := 60) (u := 3) (s := 4) rfl rfl (loadVar_op (put4_at G1.out _ _ _ _))) rfl ⟨?_, ?_⟩
        · exact S3.out.trans (put4_same _ _ _ _ _ _) (fun i hi e => by omega)
        · rw [HQ2.out]
          exact ⟨_, _, _, _, rfl⟩
      rw [h2] at bb2 nn2 u2
      simp only at bb2 nn2 u2 ⊢
      obtain ⟨n21, n22, -, -⟩ := rd_ok (u2.byts.drop P) h2
      obtain ⟨g2', o2', rfl⟩ := nn2 trivial
      have hcv := convert_bytes (c := q2) bb2
      obtain ⟨-, cc3, -, -, -⟩ := u2.cells
      have U3 : Hid _ := u2
      have HQ2 : Hid (run pgO (l.drop pl) pl = run (Pg.ask (.tx 0 16) fun z => .ret (mkO 1 k z.2)) ((l.drop P).drop n2) (P + n2)) := HQ.out.trans (run_ask_ok h2)
      rw [List.drop_drop] at HQ2
      have EV : Hid (∀ v, opV (mkO 1 k v) = .agg #[.int .i64 1, .string (strOfNums k), .bool true, .string (strOfNums v)]) := fun _ => rfl
      have HP2 : Hid (P + n2 ≤ l.length) := by rw [List.length_drop] at n22; have := HP1.out; show P + n2 ≤ l.length; omega
      clear bb2 na2 nn2 u2 h2 n21 n22
      generalize eQ : P + n2 = Q at HQ2 HP2 U3 cc3 ⊢
      clear eQ
      have sX : Same (fun k => k = w.heap.size + 1) w2 (w2.setCell ⟨w.heap.size + 1, 1, none⟩ (.string (strOfNums k))) := Same.setCell (S := fun k => k = w.heap.size + 1) (Same.refl _ w2) _ (.inr rfl) _
      have e2 : (w2.setCell ⟨w.heap.size + 1, 1, none⟩ (.string (strOfNums k))).heap[w.heap.size + 1]? = some (opO (.int .i64 1) (.string (strOfNums k)) (.bool true) (.string ⟨#[]⟩)) := (setCell_at G2.out 1 _).trans (by simp [opO])
      have U4 : Hid _ := U3.out.kept sX (fun e => hne1 e.symm) (fun k hk e => by have := HG.out k hk; omega)
      have B5 : Hid _ := sX.op G1.out (by omega)
      have B6 : Hid _ := e2
      have S4 : Hid (Same (fun k => k = rb) w (w2.setCell ⟨w.heap.size + 1, 1, none⟩ (.string (strOfNums k)))) := S3.out.trans sX (fun i hi e => by omega)
      clear e2 sX
      go_wp2_with fail
      refine Calls.mono (H3.out _ _ U4.out) ?_
      rintro e w3 ⟨a3, q3, rfl, bb3, na3, nn3, u3, s3⟩
      have g1 := s3.op B5.out hne
      have g2 := s3.op B6.out hne1
      have S5 : Hid (Same (fun k => k = rb) w w3) := S4.out.trans' s3
      have G3 : Hid _ := g1
      clear p0 p1 p2 p3 r0 r1 r2 r3 d0 d1 d2 d3 f0 f1 f2 f3 cc3 hcv
      obtain ⟨⟨p0, p1, p2, p3⟩, r0, r1, r2, r3⟩ := op_obj g1
      obtain ⟨⟨d0, d1, d2, d3⟩, f0, f1, f2, f3⟩ := op_obj g2
      rw [HR3.out Q HP2.out] at bb3 nn3 u3 ⊢
      clear g1 g2 s3
      rcases h3 : rd (.tx 0 16) (l.drop Q) with z | ⟨⟨y', v⟩, n3⟩
      · rw [h3] at bb3 nn3 u3
        simp only at bb3 nn3 u3 ⊢
        have hz := rd_nz h3
        have hz' : (z != 0) = true := by simpa using hz
        have HQ3 : Hid _ := HQ2.out.trans (run_ask_err h3)
        clear bb3 na3 nn3 u3 h3 hz
        go_wp2_with fail
        refine bodyPost_ret (results_ctt (a := 2) (t := 60) (u := 3) (s := 4) rfl rfl (loadVar_op (put4_at G3.out _ _ _ _))) rfl ⟨?_, ?_⟩
        · exact S5.out.trans (put4_same _ _ _ _ _ _) (fun i hi e => by omega)
        · rw [HQ3.out]
          exact ⟨_, _, _, _, rfl⟩
      rw [h3] at bb3 nn3 u3
      simp only at bb3 nn3 u3 ⊢
      obtain ⟨g3', o3', rfl⟩ := nn3 trivial
      have hcv := convert_bytes (c := q3) bb3
      have U5 : Hid _ := u3
      have HQ3 : Hid (run pgO (l.drop pl) pl = .ok (mkO 1 k v, Q + n3)) := HQ2.out.trans (run_ask_ok h3)
      clear bb3 na3 nn3 u3 h3
      go_wp2_with fail
      refine bodyPost_ret (results_ctt (a := 2) (t := 60) (u := 3) (s := 4) rfl rfl (loadVar_op (put4_at (w := w3.setCell ⟨w.heap.size + 1, 3, none⟩ (.string (strOfNums v))) ((Same.block_set (fun e => by omega)).symm.trans G3.out) _ _ _ _))) rfl ?_
      have s5 : Same (fun k => k = w.heap.size ∨ k = w.heap.size + 1) w3 (put4 (w3.setCell ⟨w.heap.size + 1, 3, none⟩ (.string (strOfNums v))) w.heap.size (.int .i64 1) (.string (strOfNums k)) (.bool true) (.string (strOfNums v))) :=
        ((Same.refl _ w3).setCell _ (.inr (.inr rfl)) _).trans (put4_same _ _ _ _ _ _) (fun i hi e => .inl e)
      unfold OrP
      rw [HQ3.out]
      simp only
      rw [EV.out]
      exact ⟨S5.out.trans s5 (fun i hi e => by omega), rfl, U5.out.kept s5 (fun e => by omega) (fun k hk e => by have := HG.out k hk; omega)⟩
    · generalize eP : pl + 1 = P at H1 HQ HP1
      clear eP
      go_enter Try.func48, Try.ntmps48
      go_wp2_with fail
      refine Calls.mono (H1.out _ (((Same.refl _ w).alloc _).alloc _)) ?_
      rintro e w1 ⟨rfl, u1, s1⟩
      obtain ⟨b1, b2⟩ := Same.two s1 hne hne1
      obtain ⟨⟨p0, p1, p2, p3⟩, r0, r1, r2, r3⟩ := op_obj b1
      obtain ⟨⟨d0, d1, d2, d3⟩, f0, f1, f2, f3⟩ := op_obj b2
      obtain ⟨-, cc2, -, -, -⟩ := u1.cells
      have S1 : Hid (Same (fun k => k = rb) w w1) := (((Same.refl _ w).alloc _).alloc _).trans' s1
      have B1 : Hid _ := b1
      have B2 : Hid _ := b2
      have U1 : Hid _ := u1
      clear u1 s1 b1 b2
      go_wp2_with fail
      have e2 : (w1.setCell ⟨w.heap.size + 1, 2, none⟩ (.bool false)).heap[w.heap.size + 1]? = some (opO (.int .i64 1) (.string ⟨#[]⟩) (.bool false) (.string ⟨#[]⟩)) := (setCell_at B2.out 2 _).trans (by simp [opO])
      have sX : Same (fun k => k = w.heap.size + 1) w1 (w1.setCell ⟨w.heap.size + 1, 2, none⟩ (.bool false)) := Same.setCell (S := fun k => k = w.heap.size + 1) (Same.refl _ w1) _ (.inr rfl) _
      have U2 : Hid _ := U1.out.kept sX (fun e => hne1 e.symm) (fun k hk e => by have := HG.out k hk; omega)
      have B3 : Hid _ := sX.op B1.out (by omega)
      have B4 : Hid _ := e2
      have S2 : Hid (Same (fun k => k = rb) w (w1.setCell ⟨w.heap.size + 1, 2, none⟩ (.bool false))) := S1.out.trans sX (fun i hi e => by omega)
      clear e2 sX
      refine Calls.mono (H2.out _ _ U2.out) ?_
      rintro e w2 ⟨a2, q2, rfl, bb2, na2, nn2, u2, s2⟩
      have g1 := s2.op B3.out hne
      have g2 := s2.op B4.out hne1
      have S3 : Hid (Same (fun k => k = rb) w w2) := S2.out.trans' s2
      have G1 : Hid _ := g1
      have G2 : Hid _ := g2
      clear p0 p1 p2 p3 r0 r1 r2 r3 d0 d1 d2 d3 f0 f1 f2 f3 cc2
      obtain ⟨⟨p0, p1, p2, p3⟩, r0, r1, r2, r3⟩ := op_obj g1
      obtain ⟨⟨d0, d1, d2, d3⟩, f0, f1, f2, f3⟩ := op_obj g2
      rw [HR2.out P HP1.out] at bb2 nn2 u2 ⊢
      clear g1 g2 s2
      rcases h2 : rd (.tx 1 8) (l.drop P) with z | ⟨⟨y, k⟩, n2⟩
      · rw [h2] at bb2 nn2 u2
        simp only at bb2 nn2 u2 ⊢
        have hz := rd_nz h2
        have hz' : (z != 0) = true := by simpa using hz
        have HQ2 : Hid _ := HQ.out.trans (run_ask_err h2)
        clear bb2 na2 nn2 u2 h2 hz
        go_wp2_with fail
        refine bodyPost_ret (results_ctt (a := 2) (t := 60) (u := 3) (s := 4) rfl rfl (loadVar_op (put4_at G1.out _ _ _ _))) rfl ⟨?_, ?_⟩
        · exact S3.out.trans (put4_same _ _ _ _ _ _) (fun i hi e => by omega)
        · rw [HQ2.out]
          exact ⟨_, _, _, _, rfl⟩
      rw [h2] at bb2 nn2 u2
      simp only at bb2 nn2 u2 ⊢
      obtain ⟨n21, n22, -, -⟩ := rd_ok (u2.byts.drop P) h2
      obtain ⟨g2', o2', rfl⟩ := nn2 trivial
      have hcv := convert_bytes (c := q2) bb2
      obtain ⟨-, cc3, -, -, -⟩ := u2.cells
      have U3 : Hid _ := u2
      have HQ2 : Hid (run pgO (l.drop pl) pl = .ok (mkO 2 k [], P + n2)) := HQ.out.trans (run_ask_ok h2)
      have EV : Hid (opV (mkO 2 k []) = .agg #[.int .i64 1, .string (strOfNums k), .bool false, .string ⟨#[]⟩]) := rfl
      clear bb2 na2 nn2 u2 h2 n21 n22
      go_wp2_with fail
      refine bodyPost_ret (results_ctt (a := 2) (t := 60) (u := 3) (s := 4) rfl rfl (loadVar_op (put4_at (w := w2.setCell ⟨w.heap.size + 1, 1, none⟩ (.string (strOfNums k))) ((Same.block_set (fun e => by omega)).symm.trans G1.out) _ _ _ _))) rfl ?_
      have s5 : Same (fun k => k = w.heap.size ∨ k = w.heap.size + 1) w2 (put4 (w2.setCell ⟨w.heap.size + 1, 1, none⟩ (.string (strOfNums k))) w.heap.size (.int .i64 1) (.string (strOfNums k)) (.bool false) (.string ⟨#[]⟩)) :=
        ((Same.refl _ w2).setCell _ (.inr (.inr rfl)) _).trans (put4_same _ _ _ _ _ _) (fun i hi e => .inl e)
      unfold OrP
      rw [HQ2.out]
      simp only
      rw [EV.out]
      exact ⟨S3.out.trans s5 (fun i hi e => by omega), rfl, U3.out.kept s5 (fun e => by omega) (fun k hk e => by have := HG.out k hk; omega)⟩
    · generalize eP : pl + 1 = P at H1 HQ HP1
      clear eP
      go_enter Try.func48, Try.ntmps48
      go_wp2_with fail
      refine Calls.mono (H1.out _ (((Same.refl _ w).alloc _).alloc _)) ?_
      rintro e w1 ⟨rfl, u1, s1⟩
      obtain ⟨b1, b2⟩ := Same.two s1 hne hne1
      obtain ⟨⟨p0, p1, p2, p3⟩, r0, r1, r2, r3⟩ := op_obj b1
      obtain ⟨⟨d0, d1, d2, d3⟩, f0, f1, f2, f3⟩ := op_obj b2
      obtain ⟨-, cc2, -, -, -⟩ := u1.cells
      have S1 : Hid (Same (fun k => k = rb) w w1) := (((Same.refl _ w).alloc _).alloc _).trans' s1
      have B1 : Hid _ := b1
      have B2 : Hid _ := b2
      have U1 : Hid _ := u1
      clear u1 s1 b1 b2
      go_wp2_with fail
      have e2 : ((w1.setCell ⟨w.heap.size + 1, 2, none⟩ (.bool true)).setCell ⟨w.heap.size + 1, 0, none⟩ (.int .i64 2)).heap[w.heap.size + 1]? = some (opO (.int .i64 2) (.string ⟨#[]⟩) (.bool true) (.string ⟨#[]⟩)) := (setCell_at (setCell_at B2.out 2 _) 0 _).trans (by simp [opO])
      have sX : Same (fun k => k = w.heap.size + 1) w1 ((w1.setCell ⟨w.heap.size + 1, 2, none⟩ (.bool true)).setCell ⟨w.heap.size + 1, 0, none⟩ (.int .i64 2)) := Same.setCell (S := fun k => k = w.heap.size + 1) (Same.setCell (S := fun k => k = w.heap.size + 1) (Same.refl _ w1) _ (.inr rfl) _) _ (.inr rfl) _
      have U2 : Hid _ := U1.out.kept sX (fun e => hne1 e.symm) (fun k hk e => by have := HG.out k hk; omega)
      have B3 : Hid _ := sX.op B1.out (by omega)
      have B4 : Hid _ := e2
      have S2 : Hid (Same (fun k => k = rb) w ((w1.setCell ⟨w.heap.size + 1, 2, none⟩ (.bool true)).setCell ⟨w.heap.size + 1, 0, none⟩ (.int .i64 2))) := S1.out.trans sX (fun i hi e => by omega)
      clear e2 sX
      refine Calls.mono (H2.out _ _ U2.out) ?_
      rintro e w2 ⟨a2, q2, rfl, bb2, na2, nn2, u2, s2⟩
      have g1 := s2.op B3.out hne
      have g2 := s2.op B4.out hne1
      have S3 : Hid (Same (fun k => k = rb) w w2) := S2.out.trans' s2
      have G1 : Hid _ := g1
      have G2 : Hid _ := g2
      clear p0 p1 p2 p3 r0 r1 r2 r3 d0 d1 d2 d3 f0 f1 f2 f3 cc2
      obtain ⟨⟨p0, p1, p2, p3⟩, r0, r1, r2, r3⟩ := op_obj g1
      obtain ⟨⟨d0, d1, d2, d3⟩, f0, f1, f2, f3⟩ := op_obj g2
      rw [HR2.out P HP1.out] at bb2 nn2 u2 ⊢
      clear g1 g2 s2
      rcases h2 : rd (.tx 1 8) (l.drop P) with z | ⟨⟨y, k⟩, n2⟩
      · rw [h2] at bb2 nn2 u2
        simp only at bb2 nn2 u2 ⊢
        have hz := rd_nz h2
        have hz' : (z != 0) = true := by simpa using hz
        have HQ2 : Hid _ := HQ.out.trans (run_ask_err h2)
        clear bb2 na2 nn2 u2 h2 hz
        go_wp2_with fail
        refine bodyPost_ret (results_ctt (a := 2) (t := 60) (u := 3) (s := 4) rfl rfl (loadVar_op (put4_at G1.out _ _ _ _))) rfl ⟨?_, ?_⟩
        · exact S3.out.trans (put4_same _ _ _ _ _ _) (fun i hi e => by omega)
        · rw [HQ2.out]
          exact ⟨_, _, _, _, rfl⟩
      rw [h2] at bb2 nn2 u2
      simp only at bb2 nn2 u2 ⊢
      obtain ⟨n21, n22, -, -⟩ := rd_ok (u2.byts.drop P) h2
      obtain ⟨g2', o2', rfl⟩ := nn2 trivial
      have hcv := convert_bytes (c := q2) bb2
      obtain ⟨-, cc3, -, -, -⟩ := u2.cells
      have U3 : Hid _ := u2
      have HQ2 : Hid (run pgO (l.drop pl) pl = run (Pg.ask (.tx 0 16) fun z => .ret (mkO 3 k z.2)) ((l.drop P).drop n2) (P + n2)) := HQ.out.trans (run_ask_ok h2)
      rw [List.drop_drop] at HQ2
      have EV : Hid (∀ v, opV (mkO 3 k v) = .agg #[.int .i64 2, .string (strOfNums k), .bool true, .string (strOfNums v)]) := fun _ => rfl
      have HP2 : Hid (P + n2 ≤ l.length) := by rw [List.length_drop] at n22; have := HP1.out; show P + n2 ≤ l.length; omega
      clear bb2 na2 nn2 u2 h2 n21 n22
      generalize eQ : P + n2 = Q at HQ2 HP2 U3 cc3 ⊢
      clear eQ
      have sX : Same (fun k => k = w.heap.size + 1) w2 (w2.setCell ⟨w.heap.size + 1, 1, none⟩ (.string (strOfNums k))) := Same.setCell (S := fun k => k = w.heap.size + 1) (Same.refl _ w2) _ (.inr rfl) _
      have e2 : (w2.setCell ⟨w.heap.size + 1, 1, none⟩ (.string (strOfNums k))).heap[w.heap.size + 1]? = some (opO (.int .i64 2) (.string (strOfNums k)) (.bool true) (.string ⟨#[]⟩)) := (setCell_at G2.out 1 _).trans (by simp [opO])
      have U4 : Hid _ := U3.out.kept sX (fun e => hne1 e.symm) (fun k hk e => by have := HG.out k hk; omega)
      have B5 : Hid _ := sX.op G1.out (by omega)
      have B6 : Hid _ := e2
      have S4 : Hid (Same (fun k => k = rb) w (w2.setCell ⟨w.heap.size + 1, 1, none⟩ (.string (strOfNums k)))) := S3.out.trans sX (fun i hi e => by omega)
      clear e2 sX
      go_wp2_with fail
      refine Calls.mono (H3.out _ _ U4.out) ?_
      rintro e w3 ⟨a3, q3, rfl, bb3, na3, nn3, u3, s3⟩
      have g1 := s3.op B5.out hne
      have g2 := s3.op B6.out hne1
      have S5 : Hid (Same (fun k => k = rb) w w3) := S4.out.trans' s3
      have G3 : Hid _ := g1
      clear p0 p1 p2 p3 r0 r1 r2 r3 d0 d1 d2 d3 f0 f1 f2 f3 cc3 hcv
      obtain ⟨⟨p0, p1, p2, p3⟩, r0, r1, r2, r3⟩ := op_obj g1
      obtain ⟨⟨d0, d1, d2, d3⟩, f0, f1, f2, f3⟩ := op_obj g2
      rw [HR3.out Q HP2.out] at bb3 nn3 u3 ⊢
      clear g1 g2 s3
      rcases h3 : rd (.tx 0 16) (l.drop Q) with z | ⟨⟨y', v⟩, n3⟩
      · rw [h3] at bb3 nn3 u3
        simp only at bb3 nn3 u3 ⊢
        have hz := rd_nz h3
        have hz' : (z != 0) = true := by simpa using hz
        have HQ3 : Hid _ := HQ2.out.trans (run_ask_err h3)
        clear bb3 na3 nn3 u3 h3 hz
        go_wp2_with fail
        refine bodyPost_ret (results_ctt (a := 2) (t := 60) (u := 3) (s := 4) rfl rfl (loadVar_op (put4_at G3.out _ _ _ _))) rfl ⟨?_, ?_⟩
        · exact S5.out.trans (put4_same _ _ _ _ _ _) (fun i hi e => by omega)
        · rw [HQ3.out]
          exact ⟨_, _, _, _, rfl⟩
      rw [h3] at bb3 nn3 u3
      simp only at bb3 nn3 u3 ⊢
      obtain ⟨g3', o3', rfl⟩ := nn3 trivial
      have hcv := convert_bytes (c := q3) bb3
      have U5 : Hid _ := u3
      have HQ3 : Hid (run pgO (l.drop pl) pl = .ok (mkO 3 k v, Q + n3)) := HQ2.out.trans (run_ask_ok h3)
      clear bb3 na3 nn3 u3 h3
      go_wp2_with fail
      refine bodyPost_ret (results_ctt (a := 2) (t := 60) (u := 3) (s := 4) rfl rfl (loadVar_op (put4_at (w := w3.setCell ⟨w.heap.size + 1, 3, none⟩ (.string (strOfNums v))) ((Same.block_set (fun e => by omega)).symm.trans G3.out) _ _ _ _))) rfl ?_
      have s5 : Same (fun k => k = w.heap.size ∨ k = w.heap.size + 1) w3 (put4 (w3.setCell ⟨w.heap.size + 1, 3, none⟩ (.string (strOfNums v))) w.heap.size (.int .i64 2) (.string (strOfNums k)) (.bool true) (.string (strOfNums v))) :=
        ((Same.refl _ w3).setCell _ (.inr (.inr rfl)) _).trans (put4_same _ _ _ _ _ _) (fun i hi e => .inl e)
      unfold OrP
      rw [HQ3.out]
      simp only
      rw [EV.out]
      exact ⟨S5.out.trans s5 (fun i hi e => by omega), rfl, U5.out.kept s5 (fun e => by omega) (fun k hk e => by have := HG.out k hk; omega)⟩
    · generalize eP : pl + 1 = P at H1 HQ HP1
      clear eP
      go_enter Try.func48, Try.ntmps48
      go_wp2_with fail
      refine Calls.mono (H1.out _ (((Same.refl _ w).alloc _).alloc _)) ?_
      rintro e w1 ⟨rfl, u1, s1⟩
      obtain ⟨b1, b2⟩ := Same.two s1 hne hne1
      obtain ⟨⟨p0, p1, p2, p3⟩, r0, r1, r2, r3⟩ := op_obj b1
      obtain ⟨⟨d0, d1, d2, d3⟩, f0, f1, f2, f3⟩ := op_obj b2
      obtain ⟨-, cc2, -, -, -⟩ := u1.cells
      have S1 : Hid (Same (fun k => k = rb) w w1) := (((Same.refl _ w).alloc _).alloc _).trans' s1
      have B1 : Hid _ := b1
      have B2 : Hid _ := b2
      have U1 : Hid _ := u1
      clear u1 s1 b1 b2
      go_wp2_with fail
      have e2 : ((w1.setCell ⟨w.heap.size + 1, 2, none⟩ (.bool false)).setCell ⟨w.heap.size + 1, 0, none⟩ (.int .i64 3)).heap[w.heap.size + 1]? = some (opO (.int .i64 3) (.string ⟨#[]⟩) (.bool false) (.string ⟨#[]⟩)) := (setCell_at (setCell_at B2.out 2 _) 0 _).trans (by simp [opO])
      have sX : Same (fun k => k = w.heap.size + 1) w1 ((w1.setCell ⟨w.heap.size + 1, 2, none⟩ (.bool false)).setCell ⟨w.heap.size + 1, 0, none⟩ (.int .i64 3)) := Same.setCell (S := fun k => k = w.heap.size + 1) (Same.setCell (S := fun k => k = w.heap.size + 1) (Same.refl _ w1) _ (.inr rfl) _) _ (.inr rfl) _
      have U2 : Hid _ := U1.out.kept sX (fun e => hne1 e.symm) (fun k hk e => by have := HG.out k hk; omega)
      have B3 : Hid _ := sX.op B1.out (by omega)
      have B4 : Hid _ := e2
      have S2 : Hid (Same (fun k => k = rb) w ((w1.setCell ⟨w.heap.size + 1, 2, none⟩ (.bool false)).setCell ⟨w.heap.size + 1, 0, none⟩ (.int .i64 3))) := S1.out.trans sX (fun i hi e => by omega)
      clear e2 sX
      refine Calls.mono (H2.out _ _ U2.out) ?_
      rintro e w2 ⟨a2, q2, rfl, bb2, na2, nn2, u2, s2⟩
      have g1 := s2.op B3.out hne
      have g2 := s2.op B4.out hne1
      have S3 : Hid (Same (fun k => k = rb) w w2) := S2.out.trans' s2
      have G1 : Hid _ := g1
      have G2 : Hid _ := g2
      clear p0 p1 p2 p3 r0 r1 r2 r3 d0 d1 d2 d3 f0 f1 f2 f3 cc2
      obtain ⟨⟨p0, p1, p2, p3⟩, r0, r1, r2, r3⟩ := op_obj g1
      obtain ⟨⟨d0, d1, d2, d3⟩, f0, f1, f2, f3⟩ := op_obj g2
      rw [HR2.out P HP1.out] at bb2 nn2 u2 ⊢
      clear g1 g2 s2
      rcases h2 : rd (.tx 1 8) (l.drop P) with z | ⟨⟨y, k⟩, n2⟩
      · rw [h2] at bb2 nn2 u2
        simp only at bb2 nn2 u2 ⊢
        have hz := rd_nz h2
        have hz' : (z != 0) = true := by simpa using hz
        have HQ2 : Hid _ := HQ.out.trans (run_ask_err h2)
        clear bb2 na2 nn2 u2 h2 hz
        go_wp2_with fail
        refine bodyPost_ret (results_ctt (a := 2) (t := 60) (u := 3) (s := 4) rfl rfl (loadVar_op (put4_at G1.out _ _ _ _))) rfl ⟨?_, ?_⟩
        · exact S3.out.trans (put4_same _ _ _ _ _ _) (fun i hi e => by omega)
        · rw [HQ2.out]
          exact ⟨_, _, _, _, rfl⟩
      rw [h2] at bb2 nn2 u2
      simp only at bb2 nn2 u2 ⊢
      obtain ⟨n21, n22, -, -⟩ := rd_ok (u2.byts.drop P) h2
      obtain ⟨g2', o2', rfl⟩ := nn2 trivial
      have hcv := convert_bytes (c := q2) bb2
      obtain ⟨-, cc3, -, -, -⟩ := u2.cells
      have U3 : Hid _ := u2
      have HQ2 : Hid (run pgO (l.drop pl) pl = .ok (mkO 4 k [], P + n2)) := HQ.out.trans (run_ask_ok h2)
      have EV : Hid (opV (mkO 4 k []) = .agg #[.int .i64 3, .string (strOfNums k), .bool false, .string ⟨#[]⟩]) := rfl
      clear bb2 na2 nn2 u2 h2 n21 n22
      go_wp2_with fail
      refine bodyPost_ret (results_ctt (a := 2) (t := 60) (u := 3) (s := 4) rfl rfl (loadVar_op (put4_at (w := w2.setCell ⟨w.heap.size + 1, 1, none⟩ (.string (strOfNums k))) ((Same.block_set (fun e => by omega)).symm.trans G1.out) _ _ _ _))) rfl ?_
      have s5 : Same (fun k => k = w.heap.size ∨ k = w.heap.size + 1) w2 (put4 (w2.setCell ⟨w.heap.size + 1, 1, none⟩ (.string (strOfNums k))) w.heap.size (.int .i64 3) (.string (strOfNums k)) (.bool false) (.string ⟨#[]⟩)) :=
        ((Same.refl _ w2).setCell _ (.inr (.inr rfl)) _).trans (put4_same _ _ _ _ _ _) (fun i hi e => .inl e)
      unfold OrP
      rw [HQ2.out]
      simp only
      rw [EV.out]
      exact ⟨S3.out.trans s5 (fun i hi e => by omega), rfl, U3.out.kept s5 (fun e => by omega) (fun k hk e => by have := HG.out k hk; omega)⟩
  · have HQ : Hid (run pgO (l.drop pl) pl = .error (pl, 60)) := run_ask_err (by rw [hxr]; simp only [rd]; rw [if_neg hx])
    clear h hrb hxr
    by_cases hx1 : x < 1
    · have d1x : decide (x < 1) = true := decide_eq_true hx1
      clear hx
      go_enter Try.func48, Try.ntmps48
      go_wp2_with fail
      refine Calls.mono (H1.out _ (((Same.refl _ w).alloc _).alloc _)) ?_
      rintro e w1 ⟨rfl, u1, s1⟩
      obtain ⟨b1, b2⟩ := Same.two s1 hne hne1
      obtain ⟨⟨p0, p1, p2, p3⟩, r0, r1, r2, r3⟩ := op_obj b1
      obtain ⟨⟨d0, d1, d2, d3⟩, f0, f1, f2, f3⟩ := op_obj b2
      have S1 : Hid (Same (fun k => k = rb) w w1) := (((Same.refl _ w).alloc _).alloc _).trans' s1
      have B1 : Hid _ := b1
      clear u1 s1 b1 b2
      go_wp2_with fail
      refine bodyPost_ret (results_ctt (a := 2) (t := 60) (u := 3) (s := 4) rfl rfl (loadVar_op (put4_at B1.out _ _ _ _))) rfl ⟨?_, ?_⟩
      · exact S1.out.trans (put4_same _ _ _ _ _ _) (fun i hi e => by omega)
      · rw [HQ.out]
        exact ⟨_, _, _, _, rfl⟩
    · have d1x : decide (x < 1) = false := decide_eq_false hx1
      have hx4 : 4 < x := by omega
      have d2x : decide (4 < x) = true := decide_eq_true hx4
      clear hx
      go_enter Try.func48, Try.ntmps48
      go_wp2_with fail
      refine Calls.mono (H1.out _ (((Same.refl _ w).alloc _).alloc _)) ?_
      rintro e w1 ⟨rfl, u1, s1⟩
      obtain ⟨b1, b2⟩ := Same.two s1 hne hne1
      obtain ⟨⟨p0, p1, p2, p3⟩, r0, r1, r2, r3⟩ := op_obj b1
      obtain ⟨⟨d0, d1, d2, d3⟩, f0, f1, f2, f3⟩ := op_obj b2
      have S1 : Hid (Same (fun k => k = rb) w w1) := (((Same.refl _ w).alloc _).alloc _).trans' s1
      have B1 : Hid _ := b1
      clear u1 s1 b1 b2
      go_wp2_with fail
      refine bodyPost_ret (results_ctt (a := 2) (t := 60) (u := 3) (s := 4) rfl rfl (loadVar_op (put4_at B1.out _ _ _ _))) rfl ⟨?_, ?_⟩
      · exact S1.out.trans (put4_same _ _ _ _ _ _) (fun i hi e => by omega)
      · rw [HQ.out]
        exact ⟨_, _, _, _, rfl⟩
end
end Go.Proofs.Ytmajfclkhjnahaa
