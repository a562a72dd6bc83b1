/- What is proved: Decode answers what a list of bytes says, for every list, and leaves all that was there as it was; the bounds that a machine's memory sets. -/
import Derived.Test.YtcbllejjiokmbaaQDecM
import Derived.Deep.DeepCutAuto
namespace Go.Proofs.Ytcbllejjiokmbaa
open Go.RowKit

theorem Cu.of_same {w w' : World} {cb b : Nat} {a : Option Addr} {cap : Nat} {l : List Int} {pl : Nat} {ft : Int} (h : Cu w cb a cap l pl ft) (hs : Same (fun k => k = b) w w') (h1 : cb ≠ b) (h2 : ∀ g, a = some ⟨g, 0, none⟩ → g < b) : Cu w' cb a cap l pl ft :=
  h.kept hs h1 (fun g e e' => by have := h2 g e; omega)
/-- What stands while a row is read: the cursor, the row's box, the answer's box. -/
structure Rd9 (w W : World) (cb rb : Nat) (a : Option Addr) (cap : Nat) (l : List Int) (pl : Nat) (ft : Int) (v0 v1 v2 v3 v4 v5 v6 : Value) : Prop where
  cu : Cu W cb a cap l pl ft
  row : W.heap[rb]? = some (.cells #[v0, v1, v2, v3, v4, v5, v6] 26 (0, 0))
  box : W.heap[w.heap.size]? = some (.cells zrow 26 (0, 0))
  kept : Kept w W
  cbb : w.heap.size < cb
  rbc : cb < rb
  dat : ∀ g, a = some ⟨g, 0, none⟩ → w.heap.size < g ∧ g < rb
theorem Rd9.read {w W W' : World} {cb rb : Nat} {a : Option Addr} {cap : Nat} {l : List Int} {pl pl' : Nat} {ft ft' : Int} {v0 v1 v2 v3 v4 v5 v6 : Value} (h : Rd9 w W cb rb a cap l pl ft v0 v1 v2 v3 v4 v5 v6) (u : Cu W' cb a cap l pl' ft') (s : Same (fun k => k = cb) W W') : Rd9 w W' cb rb a cap l pl' ft' v0 v1 v2 v3 v4 v5 v6 :=
  ⟨u, (s.block rb (lt_of_heap h.row) (by have := h.rbc; omega)).trans h.row, (s.block _ (lt_of_heap h.box) (by have := h.cbb; omega)).trans h.box, h.kept.trans s (fun i hi e => by have := h.cbb; omega), h.cbb, h.rbc, h.dat⟩
theorem Rd9.put {w W : World} {cb rb : Nat} {a : Option Addr} {cap : Nat} {l : List Int} {pl : Nat} {ft : Int} {v0 v1 v2 v3 v4 v5 v6 : Value} (h : Rd9 w W cb rb a cap l pl ft v0 v1 v2 v3 v4 v5 v6) (o : Nat) (u u0 u1 u2 u3 u4 u5 u6 : Value) (e : (#[v0, v1, v2, v3, v4, v5, v6] : Array Value).setIfInBounds o u = #[u0, u1, u2, u3, u4, u5, u6]) :
    Rd9 w (W.setCell ⟨rb, o, none⟩ u) cb rb a cap l pl ft u0 u1 u2 u3 u4 u5 u6 := by
  have s : Same (fun k => k = rb) W (W.setCell ⟨rb, o, none⟩ u) := Same.setCell (S := fun k => k = rb) (Same.refl _ W) _ (.inr rfl) _
  have h1 := h.rbc
  have h2 := h.cbb
  refine ⟨h.cu.of_same s (by omega) (fun g e => (h.dat g e).2), (setCell_at h.row o u).trans (by rw [e]), (s.block _ (lt_of_heap h.box) (by omega)).trans h.box, h.kept.trans s (fun i hi e => by omega), h.cbb, h.rbc, h.dat⟩
theorem Rd9.facts {w W : World} {cb rb : Nat} {a : Option Addr} {cap : Nat} {l : List Int} {pl : Nat} {ft : Int} {v0 v1 v2 v3 v4 v5 v6 : Value} (h : Rd9 w W cb rb a cap l pl ft v0 v1 v2 v3 v4 v5 v6) (o : Nat) : W.frozen? ⟨rb, o, none⟩ = false ∧ W.cell? ⟨rb, o, none⟩ = (#[v0, v1, v2, v3, v4, v5, v6] : Array Value)[o]? ∧ rb < W.heap.size :=
  ⟨frozen_of h.row o, cell_of h.row o, lt_of_heap h.row⟩

set_option maxRecDepth 100000 in
theorem fault9_any {w : World} {cb : Nat} {a : Option Addr} {cap : Nat} {l : List Int} {pl : Nat} {ft : Int} (h : Cu w cb a cap l pl ft) : Calls Try.prog 42 #[.pointer (some ⟨cb, 0, none⟩)] w fun e w' => e = .returned (.int .i64 ft) ∧ w' = w := by
  obtain ⟨-, -, c2, -⟩ := h.cells
  have hlt := h.lt
  clear h
  go_enter Try.func42, Try.ntmps42
  go_wp2_with fail
  go_ret
  exact ⟨rfl, rfl⟩
theorem loadVar_row_drew {w : World} {b : Nat} {r : RwM} {ty : TypeId} (hty : ty = 26 ∨ ty = 46) (h : w.heap[b]? = some (.cells #[.int .i64 r.kind, .int .i64 r.time, .int .i64 r.seq, .int .i64 r.index, .int .i64 r.frm, .int .i64 r.til, .string r.body] ty (0, 0))) :
    (loadVar ty ⟨b, 0, none⟩).run Try.prog w.drew = .ok (rowV r) w.drew := loadVar_row (w := w.drew) hty h
theorem slice_upto (W : World) (oa : Option Addr) (n c m : Nat) (hnil : oa = none → n = 0 ∧ c = 0) (h : m ≤ c) : (Instr.sliceAt 23 (.slice oa n c) none (some (.int .i64 (m : Int))) none).run Try.prog W = .ok (.slice oa m c) W := by
  have h1 : (m : Int) ≤ (c : Int) := by omega
  cases oa with
  | none =>
    obtain ⟨rfl, rfl⟩ := hnil rfl
    obtain rfl : m = 0 := by omega
    clear hnil h h1
    go_simp
  | some ad =>
    clear hnil h
    obtain ⟨b, off, sp⟩ := ad
    go_simp
set_option maxRecDepth 100000 in
set_option maxHeartbeats 1600000 in
theorem decode9_any (w : World) (oa : Option Addr) (c : Nat) (l : List Int) (hl : BytesAt w oa l) (hnil : oa = none → l.length = 0 ∧ c = 0) (hb : l.length ≤ 140737488355328) (hcap : l.length ≤ c) (hby : Byts l) : Calls Try.prog 13 #[.slice oa l.length c] w (DecP w l) := by
  obtain ⟨m, em⟩ : ∃ m, m = (l.take 561).length := ⟨_, rfl⟩
  have hm : m = min l.length 561 := by rw [em, List.length_take, Nat.min_comm]
  have HOP : Hid (∀ W, Kept w W → _) := fun W (k : Kept w W) => open_any W oa c (l.take 561) (by
    have := (hl.kept k (fun _ _ h => h))
    intro i x hx
    rw [List.getElem?_take_of_lt (by have := (List.getElem?_eq_some_iff.1 hx).1; simp only [List.length_take] at this; omega)] at hx
    exact this i x hx) (fun e => by have := hnil e; rw [List.length_take]; omega) (by rw [List.length_take]; omega) (hby.take 561)
  rw [← em] at HOP
  have HD : Hid _ := dec9_take hby
  have HL1 : Hid _ := hby.take 561
  have HSL : Hid (∀ W, (Instr.sliceAt 23 (.slice oa l.length c) none (some (.int .i64 (m : Int))) none).run Try.prog W = .ok (.slice oa m c) W) := fun W => slice_upto W oa l.length c m hnil (by omega)
  generalize l.take 561 = l1 at HOP HD HL1
  obtain ⟨L, eL⟩ : ∃ L, L = l.length := ⟨_, rfl⟩
  rw [← eL] at HSL hm ⊢
  have hLi : (L : Int) ≤ 140737488355328 := by omega
  clear em hl hnil hb hcap hby eL
  go_enter Try.func13, Try.ntmps13
  go_upto_region 1 with fail
  go_cut [5, 10, 11, 12, 13, 14, 15] (fun v _ _ _ _ _ _ wx => NewCu (w.heap.size + 1) l1 v wx ∧ Kept w wx ∧ wx.heap[w.heap.size]? = some (.cells zrow 26 (0, 0)))
  case first =>
    have hmin : min (L : Int) 561 = (m : Int) := by omega
    have hsl := HSL.out
    clear hm
    go_wp2_with fail
    refine Calls.mono (HOP.out _ ((Same.refl _ w).alloc _)) ?_
    rintro e w1 ⟨v, rfl, nc, k1⟩
    rw [World.size_alloc] at nc
    have NC : Hid _ := nc
    have K1 : Hid _ := k1
    clear nc k1
    go_wp2_with fail
    go_meet
    exact ⟨NC.out, ((Same.refl _ w).alloc _).trans' K1.out, (K1.out.block _ (by rw [World.size_alloc]; exact Nat.lt_succ_self _) (fun h => h)).trans (heap_new w _)⟩
  case rest =>
    obtain ⟨⟨cb, a, cap, rfl, u0, hcb, hdat⟩, k0, b0⟩ := hcut
    have HN : Hid (∀ W pl ft most, Cu W cb a cap l1 pl ft → _) := fun W pl ft most (h : Cu W cb a cap l1 pl ft) => number_any h most
    have HTX : Hid (∀ W pl ft, Cu W cb a cap l1 pl ft → _) := fun W pl ft (h : Cu W cb a cap l1 pl ft) => text_any h 0 512
    have HFT : Hid (∀ W pl ft, Cu W cb a cap l1 pl ft → _) := fun W pl ft (h : Cu W cb a cap l1 pl ft) => fault9_any h
    have HOF : Hid (∀ W pl ft, Cu W cb a cap l1 pl ft → _) := fun W pl ft (h : Cu W cb a cap l1 pl ft) => offset_any h
    have HB : Hid _ := byte_any u0
    have HDP : Hid (∀ e w', DecP w l1 e w' → DecP w l e w') := fun e w' h => by
      unfold DecP at h ⊢
      rw [← HD.out]
      exact h
    have K0 : Hid _ := k0
    have B0 : Hid _ := b0
    have HCB : Hid _ := hcb
    have HDT : Hid _ := hdat
    clear k0 b0 hcb hdat hm HSL HOP HD hLi u0
    rcases l1 with - | ⟨x0, lr⟩
    · have er : rByte [] 0 0 = ((0, 51), (0, 51)) := rfl
      rw [er] at HB
      clear er
      go_wp2_with fail
      refine Calls.mono HB.out ?_
      rintro e w1 ⟨rfl, u1, s1⟩
      have b1 := (s1.block _ (lt_of_heap B0.out) (by have := HCB.out; omega)).trans B0.out
      obtain ⟨⟨c0, c1, c2, c3, c4, c5, c6⟩, y0, y1, y2, y3, y4, y5, y6⟩ := row_obj b1
      have hlt1 := lt_of_heap b1
      have B1 : Hid _ := b1
      have K1 : Hid (Kept w w1) := K0.out.trans s1 (fun i hi e => by have := HCB.out; omega)
      clear u1 s1 b1
      go_wp2_with fail
      refine bodyPost_ret (results_ctt (a := 2) (t := 26) (u := 3) (s := 4) rfl rfl (loadVar_row (r := r0) (.inl rfl) (put7_at B1.out _ _ _ _ _ _ _))) rfl ?_
      exact HDP.out _ _ ⟨K1.out.trans (put7_same _ _ _ _ _ _ _ _ _) (fun i hi e => by omega), rfl⟩
    have er : rByte (x0 :: lr) 0 0 = ((x0, 0), (1, 0)) := by
      unfold rByte
      rw [if_neg (by decide), if_neg (by simp)]
      rfl
    rw [er] at HB
    have hx0 := HL1.out x0 (by simp)
    clear er
    by_cases hk : 1 ≤ x0 ∧ x0 ≤ 3
    · have d1 : decide (x0 < 1) = false := decide_eq_false (by omega)
      have d2 : decide (3 < x0) = false := decide_eq_false (by omega)
      have d1' : ¬ x0 < 1 := by omega
      have d2' : ¬ 3 < x0 := by omega
      have h255 : x0 ≤ 255 := by omega
      have h0 : 0 ≤ x0 := by omega
      have HDQ : Hid (dec9 (x0 :: lr) = run (pgR x0) ((x0 :: lr).drop 1) 1) := if_pos hk
      have HL : Hid (0 < (x0 :: lr).length) := by show 0 < _; simp
      generalize hl1 : x0 :: lr = l1 at *
      clear hl1 hk hx0 HL1
      go_wp2_with fail
      refine Calls.mono HB.out ?_
      rintro e w1 ⟨rfl, u1, s1⟩
      have RD0 : Hid (Rd9 w (w1.alloc (.cells #[.int .i64 x0, .int .i64 0, .int .i64 0, .int .i64 0, .int .i64 0, .int .i64 0, .string .empty] 26 (0, 0))) cb w1.heap.size a cap l1 1 0 (.int .i64 x0) (.int .i64 0) (.int .i64 0) (.int .i64 0) (.int .i64 0) (.int .i64 0) (.string .empty)) := by
        have hb1 := (s1.block _ (lt_of_heap B0.out) (by have := HCB.out; omega)).trans B0.out
        have kA : Kept w1 (w1.alloc (.cells #[.int .i64 x0, .int .i64 0, .int .i64 0, .int .i64 0, .int .i64 0, .int .i64 0, .string .empty] 26 (0, 0))) := (Same.refl _ w1).alloc _
        exact ⟨u1.on kA, heap_new _ _, (heap_old _ _ (lt_of_heap hb1)).trans hb1, (K0.out.trans s1 (fun i hi e => by have := HCB.out; omega)).trans' kA, HCB.out, u1.lt, fun g e => ⟨(HDT.out g e).1, Nat.lt_of_lt_of_le (HDT.out g e).2 s1.size⟩⟩
      generalize erb : w1.heap.size = rb at RD0
      clear u1 s1
      go_wp2_with fail
      refine Calls.mono (HN.out _ _ _ 1099511627776 RD0.out.cu) ?_
      rintro e w2 ⟨rfl, u1, s1⟩
      generalize e1 : rNum l1 1 0 1099511627776 = q1 at *
      obtain ⟨⟨x1, z1⟩, p1, f1⟩ := q1
      have rd1 := RD0.out.read u1 s1
      obtain ⟨fz1, fc1, fl1⟩ := rd1.facts 1
      have RD1 : Hid _ := rd1.put 1 (.int .i64 x1) (.int .i64 x0) (.int .i64 x1) (.int .i64 0) (.int .i64 0) (.int .i64 0) (.int .i64 0) (.string .empty) rfl
      have E1 : Hid _ := e1
      clear u1 s1 rd1 e1 RD0
      go_wp2_with fail
      refine Calls.mono (HN.out _ _ _ 1048575 RD1.out.cu) ?_
      rintro e w3 ⟨rfl, u2, s2⟩
      generalize e2 : rNum l1 p1 f1 1048575 = q2 at *
      obtain ⟨⟨x2, z2⟩, p2, f2⟩ := q2
      have rd2 := RD1.out.read u2 s2
      obtain ⟨fz2, fc2, fl2⟩ := rd2.facts 2
      have RD2 : Hid _ := rd2.put 2 (.int .i64 x2) (.int .i64 x0) (.int .i64 x1) (.int .i64 x2) (.int .i64 0) (.int .i64 0) (.int .i64 0) (.string .empty) rfl
      have E2 : Hid _ := e2
      clear u2 s2 rd2 e2 RD1
      go_wp2_with fail
      refine Calls.mono (HN.out _ _ _ 4095 RD2.out.cu) ?_
      rintro e w4 ⟨rfl, u3, s3⟩
      generalize e3 : rNum l1 p2 f2 4095 = q3 at *
      obtain ⟨⟨x3, z3⟩, p3, f3⟩ := q3
      have rd3 := RD2.out.read u3 s3
      obtain ⟨fz3, fc3, fl3⟩ := rd3.facts 3
      have RD3 : Hid _ := rd3.put 3 (.int .i64 x3) (.int .i64 x0) (.int .i64 x1) (.int .i64 x2) (.int .i64 x3) (.int .i64 0) (.int .i64 0) (.string .empty) rfl
      have E3 : Hid _ := e3
      clear u3 s3 rd3 e3 RD2
      go_wp2_with fail
      refine Calls.mono (HN.out _ _ _ 1099511627776 RD3.out.cu) ?_
      rintro e w5 ⟨rfl, u4, s4⟩
      generalize e4 : rNum l1 p3 f3 1099511627776 = q4 at *
      obtain ⟨⟨x4, z4⟩, p4, f4⟩ := q4
      have rd4 := RD3.out.read u4 s4
      obtain ⟨fz4, fc4, fl4⟩ := rd4.facts 4
      have RD4 : Hid _ := rd4.put 4 (.int .i64 x4) (.int .i64 x0) (.int .i64 x1) (.int .i64 x2) (.int .i64 x3) (.int .i64 x4) (.int .i64 0) (.string .empty) rfl
      have E4 : Hid _ := e4
      clear u4 s4 rd4 e4 RD3
      go_wp2_with fail
      refine Calls.mono (HN.out _ _ _ 1099511627776 RD4.out.cu) ?_
      rintro e w6 ⟨rfl, u5, s5⟩
      generalize e5 : rNum l1 p4 f4 1099511627776 = q5 at *
      obtain ⟨⟨x5, z5⟩, p5, f5⟩ := q5
      have rd5 := RD4.out.read u5 s5
      obtain ⟨fz5, fc5, fl5⟩ := rd5.facts 5
      have RD5 : Hid _ := rd5.put 5 (.int .i64 x5) (.int .i64 x0) (.int .i64 x1) (.int .i64 x2) (.int .i64 x3) (.int .i64 x4) (.int .i64 x5) (.string .empty) rfl
      have E5 : Hid _ := e5
      clear u5 s5 rd5 e5 RD4
      go_wp2_with fail
      refine Calls.mono (HTX.out _ _ _ RD5.out.cu) ?_
      rintro e w7 ⟨rfl, u6, s6⟩
      generalize e6 : rText l1 p5 f5 0 512 = q6 at *
      obtain ⟨⟨y, z6⟩, p6, f6⟩ := q6
      have rd6 := RD5.out.read u6 s6
      obtain ⟨fz6, fc6, fl6⟩ := rd6.facts 6
      have HP5 : Hid _ := RD5.out.cu.ple
      have RD6 : Hid _ := rd6.put 6 (.string (strOfNums y)) (.int .i64 x0) (.int .i64 x1) (.int .i64 x2) (.int .i64 x3) (.int .i64 x4) (.int .i64 x5) (.string (strOfNums y)) rfl
      have HF : Hid _ := HDQ.out.trans (goes_row (k := x0) E1.out E2.out E3.out E4.out E5.out e6 HP5.out)
      clear u6 s6 rd6 e6 RD5 E1 E2 E3 E4 E5 HDQ HP5
      go_wp2_with fail
      refine Calls.mono (HFT.out _ _ _ RD6.out.cu) ?_
      rintro e w8 ⟨rfl, ew8⟩
      rw [← ew8] at RD6
      clear ew8
      obtain ⟨⟨c0, c1, c2, c3, c4, c5, c6⟩, y0, y1, y2, y3, y4, y5, y6⟩ := row_obj RD6.out.box
      have hltb := lt_of_heap RD6.out.box
      by_cases h6 : f6 = 0
      · subst h6
        have HG : Hid _ := HF.out.trans (if_pos rfl)
        clear HF
        obtain ⟨⟨r0', r1', r2', r3', r4', r5', r6'⟩, -⟩ := row_obj RD6.out.row
        have hltr := lt_of_heap RD6.out.row
        have HOC : Hid (∀ W, Same (fun k => k = w.heap.size) w8 W → _) := fun W (k : Same (fun k => k = w.heap.size) w8 W) => HOF.out W _ _ (RD6.out.cu.kept k (by have := RD6.out.cbb; omega) (fun g e => by have := (RD6.out.dat g e).1; omega))
        go_wp2_with fail
        go_region_with (go_at_call 43; refine Calls.mono (HOC.out _ (by (repeat (first | exact Same.refl _ _ | apply Same.drew | apply Same.drewN | refine Same.setCell ?_ _ (.inr rfl) _)); done)) ?_; rintro r w9 ⟨rfl, rfl⟩)
        all_goals (go_wp2_with fail)
        all_goals refine bodyPost_ret (results_ctt (a := 2) (t := 26) (u := 3) (s := 4) rfl rfl (loadVar_row_drew (w := put7 w8 w.heap.size (.int .i64 x0) (.int .i64 x1) (.int .i64 x2) (.int .i64 x3) (.int .i64 x4) (.int .i64 x5) (.string (strOfNums y))) (r := ⟨x0, x1, x2, x3, x4, x5, strOfNums y⟩) (.inl rfl) (put7_at RD6.out.box _ _ _ _ _ _ _))) rfl ?_
        all_goals
          refine HDP.out _ _ ⟨(RD6.out.kept.trans (put7_same _ _ _ _ _ _ _ _ _) (fun i hi e => by omega)).drew, ?_⟩
          rw [HG.out]
          rfl
      · have h6' : (f6 != 0) = true := by simpa using h6
        go_wp2_with fail
        refine Calls.mono (HOF.out _ _ _ RD6.out.cu) ?_
        rintro r w9 ⟨rfl, rfl⟩
        go_wp2_with fail
        refine bodyPost_ret (results_ctt (a := 2) (t := 26) (u := 3) (s := 4) rfl rfl (loadVar_row (r := r0) (.inl rfl) (put7_at RD6.out.box _ _ _ _ _ _ _))) rfl ?_
        refine HDP.out _ _ ⟨RD6.out.kept.trans (put7_same _ _ _ _ _ _ _ _ _) (fun i hi e => by omega), ?_⟩
        rw [HF.out, if_neg h6]
        rfl
    · have HDQ : Hid (dec9 (x0 :: lr) = .error (0, 90)) := if_neg hk
      have h256 : 0 ≤ x0 ∧ x0 < 256 := hx0
      by_cases hk1 : x0 < 1
      · have d1 : decide (x0 < 1) = true := decide_eq_true hk1
        generalize hl1 : x0 :: lr = l1 at *
        clear hl1 hk hx0 HL1
        go_wp2_with fail
        refine Calls.mono HB.out ?_
        rintro e w1 ⟨rfl, u1, s1⟩
        have b1 := (s1.block _ (lt_of_heap B0.out) (by have := HCB.out; omega)).trans B0.out
        obtain ⟨⟨c0, c1, c2, c3, c4, c5, c6⟩, y0, y1, y2, y3, y4, y5, y6⟩ := row_obj b1
        have hlt1 := lt_of_heap b1
        have B1 : Hid _ := b1
        have K1 : Hid (Kept w w1) := K0.out.trans s1 (fun i hi e => by have := HCB.out; omega)
        clear u1 s1 b1
        go_wp2_with fail
        refine bodyPost_ret (results_ctt (a := 2) (t := 26) (u := 3) (s := 4) rfl rfl (loadVar_row (r := r0) (.inl rfl) (put7_at B1.out _ _ _ _ _ _ _))) rfl ?_
        refine HDP.out _ _ ⟨K1.out.trans (put7_same _ _ _ _ _ _ _ _ _) (fun i hi e => by omega), ?_⟩
        rw [HDQ.out]
        rfl
      · have d1 : decide (x0 < 1) = false := decide_eq_false hk1
        have d2 : decide (3 < x0) = true := decide_eq_true (by omega)
        generalize hl1 : x0 :: lr = l1 at *
        clear hl1 hk hx0 HL1 hk1
        go_wp2_with fail
        refine Calls.mono HB.out ?_
        rintro e w1 ⟨rfl, u1, s1⟩
        have b1 := (s1.block _ (lt_of_heap B0.out) (by have := HCB.out; omega)).trans B0.out
        obtain ⟨⟨c0, c1, c2, c3, c4, c5, c6⟩, y0, y1, y2, y3, y4, y5, y6⟩ := row_obj b1
        have hlt1 := lt_of_heap b1
        have B1 : Hid _ := b1
        have K1 : Hid (Kept w w1) := K0.out.trans s1 (fun i hi e => by have := HCB.out; omega)
        clear u1 s1 b1
        go_wp2_with fail
        refine bodyPost_ret (results_ctt (a := 2) (t := 26) (u := 3) (s := 4) rfl rfl (loadVar_row (r := r0) (.inl rfl) (put7_at B1.out _ _ _ _ _ _ _))) rfl ?_
        refine HDP.out _ _ ⟨K1.out.trans (put7_same _ _ _ _ _ _ _ _ _) (fun i hi e => by omega), ?_⟩
        rw [HDQ.out]
        rfl
end Go.Proofs.Ytcbllejjiokmbaa
