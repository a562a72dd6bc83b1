/- What is proved: Tally counts a list of violations by kind; the list lies in memory. -/
import Derived.Test.YtnfkjblhnpnaeaaVSame
import Derived.Test.YtnfkjblhnpnaeaaVRs
import Derived.Deep.WholeRow
namespace Go.Proofs.Ytnfkjblhnpnaeaa
open Go.RowKit

/-- The place that a violation is counted at. -/
def kdN (x : Vl) : Nat := if 1 ≤ x.kd ∧ x.kd ≤ 10 then x.kd.toNat else 0
theorem kdN_lt (x : Vl) : kdN x < 11 := by unfold kdN; split <;> omega
theorem kdN_in {x : Vl} (h : 1 ≤ x.kd ∧ x.kd ≤ 10) : x.kd = (kdN x : Int) := by unfold kdN; rw [if_pos h]; omega
theorem kdN_out {x : Vl} (h : ¬ (1 ≤ x.kd ∧ x.kd ≤ 10)) : kdN x = 0 := if_neg h
/-- A row of eleven counts. -/
def ta (f : Nat → Nat) : List Value := [.int .i64 (f 0 : Int), .int .i64 (f 1 : Int), .int .i64 (f 2 : Int), .int .i64 (f 3 : Int), .int .i64 (f 4 : Int), .int .i64 (f 5 : Int), .int .i64 (f 6 : Int), .int .i64 (f 7 : Int), .int .i64 (f 8 : Int), .int .i64 (f 9 : Int), .int .i64 (f 10 : Int)]
theorem ta_at (f : Nat → Nat) {i : Nat} (h : i < 11) : (ta f)[i]? = some (.int .i64 (f i : Int)) := by
  rcases i with _ | _ | _ | _ | _ | _ | _ | _ | _ | _ | _ | i <;> first | rfl | omega
/-- One more at a place. -/
def bump (f : Nat → Nat) (i : Nat) : Nat → Nat := fun j => if j = i then f j + 1 else f j
theorem ta_bump (f : Nat → Nat) {i : Nat} (h : i < 11) : (ta f).set i (.int .i64 ((f i : Int) + 1)) = ta (bump f i) := by
  rcases i with _ | _ | _ | _ | _ | _ | _ | _ | _ | _ | _ | i <;> first | rfl | omega
/-- How many stand at each place. -/
def cnt (l : List Vl) (i : Nat) : Nat := l.countP fun x => kdN x == i
theorem cnt_le (l : List Vl) (i : Nat) : cnt l i ≤ l.length := List.countP_le_length
theorem cnt_take_le (l : List Vl) (j i : Nat) : cnt (l.take j) i ≤ j := Nat.le_trans (cnt_le _ _) (by rw [List.length_take]; omega)
theorem cnt_succ {l : List Vl} {q : Nat} {x : Vl} (h : l[q]? = some x) : cnt (l.take (q + 1)) = bump (cnt (l.take q)) (kdN x) := by
  funext i
  unfold cnt bump
  rw [List.take_add_one, h, List.countP_append]
  by_cases e : i = kdN x
  · simp [e]
  · rw [if_neg e]
    simp
    omega
/-- The counts in memory. -/
def Ta (w : World) (b : Nat) (f : Nat → Nat) : Prop := w.heap[b]? = some (.cells (ta f).toArray 42 (0, 0))
theorem Ta.cell {w : World} {b : Nat} {f : Nat → Nat} (h : Ta w b f) {i : Nat} (hi : i < 11) : w.cell? ⟨b, i, none⟩ = some (.int .i64 (f i : Int)) := by
  rw [cell_of h]
  simpa using ta_at f hi
theorem Ta.put {w : World} {b : Nat} {f : Nat → Nat} (h : Ta w b f) {i : Nat} (hi : i < 11) : Ta (w.setCell ⟨b, i, none⟩ (.int .i64 ((f i : Int) + 1))) b (bump f i) := by
  unfold Ta
  rw [setCell_at h, ← ta_bump f hi]
  simp [List.setIfInBounds_toArray]
theorem Ta.on {S : Nat → Prop} {w w' : World} {b : Nat} {f : Nat → Nat} (h : Ta w b f) (hs : Same S w w') (hn : ¬ S b) : Ta w' b f := (hs.block b (lt_of_heap h) hn).trans h
theorem Ta.cells {w : World} {b : Nat} {f : Nat → Nat} (h : Ta w b f) : w.cell? ⟨b, 0, none⟩ = some (.int .i64 (f 0 : Int)) ∧ w.cell? ⟨b, 1, none⟩ = some (.int .i64 (f 1 : Int)) ∧ w.cell? ⟨b, 2, none⟩ = some (.int .i64 (f 2 : Int)) ∧ w.cell? ⟨b, 3, none⟩ = some (.int .i64 (f 3 : Int)) ∧ w.cell? ⟨b, 4, none⟩ = some (.int .i64 (f 4 : Int)) ∧ w.cell? ⟨b, 5, none⟩ = some (.int .i64 (f 5 : Int)) ∧ w.cell? ⟨b, 6, none⟩ = some (.int .i64 (f 6 : Int)) ∧ w.cell? ⟨b, 7, none⟩ = some (.int .i64 (f 7 : Int)) ∧ w.cell? ⟨b, 8, none⟩ = some (.int .i64 (f 8 : Int)) ∧ w.cell? ⟨b, 9, none⟩ = some (.int .i64 (f 9 : Int)) ∧ w.cell? ⟨b, 10, none⟩ = some (.int .i64 (f 10 : Int)) :=
  ⟨h.cell (by decide), h.cell (by decide), h.cell (by decide), h.cell (by decide), h.cell (by decide), h.cell (by decide), h.cell (by decide), h.cell (by decide), h.cell (by decide), h.cell (by decide), h.cell (by decide)⟩
theorem ekT : Ek ta 11 := ⟨fun _ => rfl, fun x v hv => by
  simp only [ta, List.mem_cons, List.not_mem_nil, or_false] at hv
  rcases hv with rfl | rfl | rfl | rfl | rfl | rfl | rfl | rfl | rfl | rfl | rfl <;> rfl, by decide⟩
theorem Ta.row {w : World} {b : Nat} {f : Nat → Nat} (h : Ta w b f) : At ta 11 w (some ⟨b, 0, none⟩) [f] := fun j y hy => by
  cases j with
  | zero =>
    simp only [List.getElem?_cons_zero, Option.some.injEq] at hy
    subst hy
    refine ⟨b, 0, rfl, lt_of_heap h, fun c v hv => ?_⟩
    have hc : c < 11 := by have := (List.getElem?_eq_some_iff.1 hv).1; rwa [ekT.len] at this
    rw [ta_at f hc] at hv
    cases hv
    rw [show 0 + 0 * 11 + c = c by omega]
    exact h.cell hc
  | succ j => simp at hy
theorem Ta.load {w : World} {b : Nat} {f : Nat → Nat} (h : Ta w b f) (P : Program) (n : Nat) (os : Array Obj) : Sem.run P (loadCellsFrom ⟨b, 0, none⟩ 0 11 #[]) (Sort.grow (w.drewN n) os) = .ok (ta f).toArray (Sort.grow (w.drewN n) os) := by
  have := At.loadg ekT h.row (i := 0) rfl P n os
  simpa using this
theorem ta_many (f g : Nat → Nat) : Sort.setMany (ta f).toArray 0 (ta g) = (ta g).toArray := by
  simp [Sort.setMany, ta]
theorem Ta.store {w : World} {b : Nat} {f : Nat → Nat} (h : Ta w b f) (P : Program) (g : Nat → Nat) : ∃ w', (storeCells ⟨b, 0, none⟩ (ta g)).run P w = .ok () w' ∧ Ta w' b g ∧ Same (fun k => k = b) w w' := by
  refine ⟨w.setCells b 0 (ta g), ?_, ?_, setCells_same _ _ _ _⟩
  · have := run_storeCells_cells (P := P) b 0 (ta g) 0 w (fun c hc => by
      rw [ekT.len] at hc
      rw [Nat.zero_add, h.cell hc]; rfl) (fun c _ => frozen_of h _) (ekT.one g)
    exact this
  · have h4 := setCells_block w b 0 (ta g) h
    rw [ta_many] at h4
    exact h4
theorem results_cell18 {fn : Func} {p : Tmp} {ty : TypeId} (h : fn.results = #[.cell p ty]) (tmps : Array Value) (P : Program) (w : World) : (results fn tmps).run P w = ((asAddr (tmps.getD p undef)).run P w).andThen fun a w' => (loadVar ty a).run P w' := by
  simp [results, h]
/-- What Tally asks of a program. -/
structure Tl (P : Program) (k kk : Nat) (enc : Vl → List Value) : Prop where
  mixed : P.follows .mixedOrders = true
  E : Ek enc k
  kd : ∀ x : Vl, (enc x)[0]? = some (.int .i64 x.kd)
  h11 : kk = 11
  fT : P.funcs[22]? = some Try.f22
  eW : ∀ (args : Array Value) (w : World), Sem.run P (callFunc 23 args) w = .ok (.enter 23 args) w
  win : ∀ (x : Int) (W : World), Calls P 23 #[.int .i64 x, .int .i64 1, .int .i64 10] W fun e w' => e = .returned (.bool (wi x 1 10)) ∧ w' = W
  t3 : P.underlying 3 = some (TypeDesc.int IntKind.i64)
  t28 : P.underlying 28 = some (TypeDesc.slice 30)
  t30 : P.underlying 30 = Try.prog.underlying 30
  t42 : P.underlying 42 = some (TypeDesc.array 11 3)
  a3 : ∀ w, Sem.run P (isAgg 3) w = .ok false w
  a28 : ∀ w, Sem.run P (isAgg 28) w = .ok false w
  a30 : ∀ w, Sem.run P (isAgg 30) w = .ok true w
  a42 : ∀ w, Sem.run P (isAgg 42) w = .ok true w
  z3 : ∀ w, Sem.run P (Go.sizeOf 3) w = .ok 1 w
  z28 : ∀ w, Sem.run P (Go.sizeOf 28) w = .ok 1 w
  z30 : ∀ w, Sem.run P (Go.sizeOf 30) w = .ok k w
  z42 : ∀ w, Sem.run P (Go.sizeOf 42) w = .ok kk w
  v30 : ∃ zs : Array Value, zs.size = k ∧ ∀ w, Sem.run P (zeroValue 30) w = .ok (.agg zs) w
  v42 : ∀ w, Sem.run P (zeroValue 42) w = .ok (.agg (ta fun _ => 0).toArray) w
  hk : k ≤ 16777216
  i30 : ∃ z bytes, (P.info? 30).map (fun i => (i.zero, i.size, i.bytes)) = some (some z, k, bytes) ∧ z.cells.size = k ∧ bytes ≤ 120
set_option maxRecDepth 100000 in
set_option maxHeartbeats 3200000 in
theorem tally_p {P : Program} {k kk : Nat} {enc : Vl → List Value} (T : Tl P k kk enc) (w : World) (a : Option Addr) (n cap : Nat) (l : List Vl) (h : At enc k w a l) (hn : n = l.length) (hm : n ≤ 4398046511104) :
    Calls P 22 #[.slice a n cap] w fun e w' => e = .returned (.agg (ta (cnt l)).toArray) ∧ Kept w w' := by
  obtain ⟨mixed, E, kd, h11, fT, eW, win, t3, t28, t30, t42, a3, a28, a30, a42, z3, z28, z30, z42, ⟨zs, hzl, v30⟩, v42, hkm, zz, bytes, i30, hzs, hby⟩ := T
  rw [Try.underlying30] at t30
  have u28 := run_underlying t28
  have u30 := run_underlying t30
  have u42 := run_underlying t42
  have EE : Hid (Ek enc k) := E
  have KD : Hid (∀ x : Vl, (enc x)[0]? = some (.int .i64 x.kd)) := kd
  have H11 : Hid (kk = 11) := h11
  have hkk0 : ¬ kk = 0 := by omega
  have hkk1 : ¬ 16777216 < kk := by omega
  have HI30 : Hid ((P.info? 30).map (·.size) = some k) := by
    obtain ⟨i0, hi0, -, hz1, -⟩ := info_parts i30
    have : (P.info? 30).map (·.size) = some k := by rw [hi0]; simpa using hz1
    exact this
  have hk0 : ¬ k = 0 := by have := E.pos; omega
  have hkm' : ¬ 16777216 < k := by omega
  have HA : Hid (At enc k w a l) := h
  have HN : Hid (n = l.length) := hn
  have HW : Hid (∀ x W, _) := win
  obtain ⟨ct, ect⟩ : ∃ ct, ct = ta (cnt l) := ⟨_, rfl⟩
  have ECT : Hid (ct = ta (cnt l)) := ect
  rw [← ect]
  clear h hn E kd h11 win ect
  have HT : Hid (Ta ((w.alloc (.cells (ta fun _ => 0).toArray 42)).alloc (.cells (ta fun _ => 0).toArray 42)) w.heap.size (fun _ => 0) ∧ Ta ((w.alloc (.cells (ta fun _ => 0).toArray 42)).alloc (.cells (ta fun _ => 0).toArray 42)) (w.heap.size + 1) (fun _ => 0) ∧ Kept w ((w.alloc (.cells (ta fun _ => 0).toArray 42)).alloc (.cells (ta fun _ => 0).toArray 42))) := by
    have h1 : Ta (w.alloc (.cells (ta fun _ => 0).toArray 42)) w.heap.size (fun _ => 0) := heap_new _ _
    have h2 : Ta ((w.alloc (.cells (ta fun _ => 0).toArray 42)).alloc (.cells (ta fun _ => 0).toArray 42)) (w.alloc (.cells (ta fun _ => 0).toArray 42)).heap.size (fun _ => 0) := heap_new _ _
    rw [World.size_alloc] at h2
    exact ⟨h1.on ((Same.refl (fun _ => False) _).alloc _) (fun e => e), h2, ((Same.refl _ w).alloc _).alloc _⟩
  generalize (ta fun _ => 0).toArray = z0 at v42 HT
  go_enter fT, Try.ntmps22
  go_wp2_with fail
  generalize World.alloc (World.alloc w _) _ = W2 at HT ⊢
  generalize hge : w.heap.size = g1 at HT ⊢
  have HS : Hid (w.heap.size = g1) := hge
  clear hge
  clear v42
  go_loopw [8] (fun i wr => ∃ j : Nat, i = .int .i64 j ∧ j ≤ n ∧ Kept w wr ∧ Ta wr (g1 + 1) (cnt (l.take j)) ∧ Ta wr g1 (fun _ => 0)) (fun i _ => n - (intOf i).toNat)
  case atStart => exact ⟨0, rfl, Nat.zero_le _, HT.out.2.2, HT.out.2.1, HT.out.1⟩
  case round =>
    obtain ⟨j, rfl, hj, kj, tj, zj⟩ := hrel
    rename World => WL
    have HL : Hid (Kept w WL ∧ Ta WL (g1 + 1) (cnt (l.take j)) ∧ Ta WL g1 (fun _ => 0)) := ⟨kj, tj, zj⟩
    clear kj tj zj HT
    by_cases hlt : j < n
    · have d1 : decide ((j : Int) < (n : Int)) = true := decide_eq_true (by omega)
      have hlt2 : (j : Int) < (n : Int) := by omega
      have hj1 : (j : Int) + 1 ≤ 9223372036854775807 := by omega
      obtain ⟨x, hx⟩ : ∃ x, l[j]? = some x := ⟨_, List.getElem?_eq_getElem (by rw [← show n = _ from HN.out]; exact hlt)⟩
      have HX : Hid (cnt (l.take (j + 1)) = bump (cnt (l.take j)) (kdN x)) := cnt_succ hx
      have HC : Hid (cnt (l.take j) (kdN x) ≤ 4398046511104) := Nat.le_trans (cnt_take_le l j _) (by omega)
      obtain ⟨ba, oa, rfl, hba, -⟩ := HA.out j x hx
      have lx := (HA.out.on HL.out.1).load0 EE.out hx P
      have hbL : ba < WL.heap.size := Nat.lt_of_lt_of_le hba HL.out.1.size
      obtain ⟨cx, ecx⟩ : ∃ cx, cx = enc x := ⟨_, rfl⟩
      have hcxk : cx.length = k := by rw [ecx]; exact EE.out.len x
      have h0 : cx[0]? = some (.int .i64 x.kd) := by rw [ecx]; exact KD.out x
      rw [← ecx] at lx
      have HNW : Hid ((WL.alloc (.cells cx.toArray 30)).heap[WL.heap.size]? = some (.cells cx.toArray 30 (0, 0))) := heap_new _ _
      have KB : Hid (Kept WL (WL.alloc (.cells cx.toArray 30))) := (Same.refl _ WL).alloc _
      have hst : (storeCells ⟨WL.heap.size, 0, none⟩ cx).run P (WL.alloc (.cells zs 30)) = .ok () (WL.alloc (.cells cx.toArray 30)) := by
        have := run_storeCells_new (P := P) WL 30 zs cx.toArray (by rw [HI30.out]; simp [hcxk]) (by rw [hzl]; simp [hcxk]) (by
          rw [List.all_toArray, List.all_eq_true, ecx]
          exact fun v hv => EE.out.one x v hv)
        simpa using this
      have H0 : Hid (cx[0]? = some (.int .i64 x.kd)) := h0
      clear hx ecx hba h0
      go_upto_region 5 with fail
      generalize WL.alloc (.cells cx.toArray 30) = W6 at HNW KB ⊢
      generalize WL.heap.size = g6 at HNW hbL ⊢
      clear lx hst hbL
      have y0 : W6.cell? ⟨g6, 0, none⟩ = some (.int .i64 x.kd) := by
        rw [cell_of HNW.out]; simpa using H0.out
      have hg6 := lt_of_heap HNW.out
      have HL6 : Hid (Kept w W6 ∧ Ta W6 (g1 + 1) (cnt (l.take j)) ∧ Ta W6 g1 (fun _ => 0)) := ⟨HL.out.1.trans' KB.out, HL.out.2.1.on KB.out (fun e => e), HL.out.2.2.on KB.out (fun e => e)⟩
      clear HL HNW KB H0
      have HCW := HW.out x.kd W6
      go_wp2_with fail
      refine Calls.mono HCW ?_
      rintro r w7 ⟨rfl, rfl⟩
      clear HCW
      by_cases hk : 1 ≤ x.kd ∧ x.kd ≤ 10
      · have hwi : wi x.kd 1 10 = true := wi_iff.2 hk
        have hke := kdN_in hk
        have hkl := kdN_lt x
        have c0 := HL6.out.2.1.cell hkl
        rw [hwi, hke]
        rw [hke] at y0
        have HP : Hid _ := HL6.out.2.1.put hkl
        have SP : Hid (Same (fun b => b = g1 + 1) w7 (w7.setCell ⟨g1 + 1, kdN x, none⟩ (.int .i64 ((cnt (l.take j) (kdN x) : Int) + 1)))) := (Same.refl (fun b => b = g1 + 1) w7).setCell ⟨g1 + 1, kdN x, none⟩ (.inr rfl) _
        have fz := frozen_of HL6.out.2.1 (kdN x)
        have fc := HC.out
        have hg1 := lt_of_heap HL6.out.2.1
        clear hwi hke hk
        generalize kdN x = q at *
        go_wp2_with fail
        go_roundw
        case rel => exact ⟨j + 1, by simp, hlt, (Kept.to HL6.out.1 (fun k => w.heap.size ≤ k)).trans SP.out (fun i _ e => by rw [e, HS.out]; omega) |>.mono fun i hi e => by omega, by rw [HX.out]; exact HP.out, HL6.out.2.2.on SP.out (by omega)⟩
        case measure => simp only [intOf]; omega
      · have hwi : wi x.kd 1 10 = false := by rw [← Bool.not_eq_true]; exact fun e => hk (wi_iff.1 e)
        have hke := kdN_out hk
        rw [hke] at HX HC
        have c0 := HL6.out.2.1.cell (i := 0) (by decide)
        rw [hwi]
        have HP : Hid _ := HL6.out.2.1.put (i := 0) (by decide)
        have SP : Hid (Same (fun b => b = g1 + 1) w7 (w7.setCell ⟨g1 + 1, 0, none⟩ (.int .i64 ((cnt (l.take j) 0 : Int) + 1)))) := (Same.refl (fun b => b = g1 + 1) w7).setCell ⟨g1 + 1, 0, none⟩ (.inr rfl) _
        have fz := frozen_of HL6.out.2.1 0
        have fc := HC.out
        have hg1 := lt_of_heap HL6.out.2.1
        clear hwi hke hk
        go_wp2_with fail
        go_roundw
        case rel => exact ⟨j + 1, by simp, hlt, (Kept.to HL6.out.1 (fun k => w.heap.size ≤ k)).trans SP.out (fun i _ e => by rw [e, HS.out]; omega) |>.mono fun i hi e => by omega, by rw [HX.out]; exact HP.out, HL6.out.2.2.on SP.out (by omega)⟩
        case measure => simp only [intOf]; omega
    · obtain rfl : n = j := by omega
      have d1 : decide ((n : Int) < (n : Int)) = false := decide_eq_false (by omega)
      have HB : Hid (Kept w WL ∧ cnt (l.take n) = cnt l) := ⟨HL.out.1, by rw [show n = l.length from HN.out, List.take_length]⟩
      have ld := HL.out.2.1.load P 0 #[]
      rw [Sort.grow_empty, show WL.drewN 0 = WL from rfl, HB.out.2, ← show kk = 11 from H11.out] at ld
      obtain ⟨wf, hst, tf, sf⟩ := HL.out.2.2.store P (cnt l)
      have le := tf.load P 0 #[]
      rw [Sort.grow_empty, show wf.drewN 0 = wf from rfl, ← show kk = 11 from H11.out] at le
      have HF : Hid (Same (fun k => k = g1) WL wf) := sf
      have hg1 := lt_of_heap HL.out.2.1
      have hg2 := lt_of_heap HL.out.2.2
      have hgf := lt_of_heap tf
      rw [← show ct = _ from ECT.out] at ld hst le
      have hctk : ct.length = kk := by rw [show ct = _ from ECT.out, ekT.len]; exact H11.out.symm
      clear HL tf sf
      go_wp2_with fail
      refine bodyPost_ret (v := .agg ct.toArray) ?_ rfl ?_
      · rw [results_cell18 rfl]
        go_simp
      exact ⟨rfl, (Kept.to HB.out.1 (fun k => w.heap.size ≤ k)).trans HF.out (fun i _ e => by rw [e, HS.out]; omega) |>.mono fun i hi e => by omega⟩
theorem tl18 : Tl Try.prog 12 11 vl1 :=
  ⟨by kernel_rfl, ekV, fun _ => rfl, rfl, Try.func22, Try.call23, fun x W => within18 x 1 10 W, Try.underlying3, Try.underlying28, rfl, Try.underlying42, Try.isAgg3, Try.isAgg28, Try.isAgg30, Try.isAgg42, Try.sizeOf3, Try.sizeOf28, Try.sizeOf30, Try.sizeOf42, ⟨_, rfl, Try.zeroValue30⟩, Try.zeroValue42, by decide, _, 120, Try.infoViol, rfl, by decide⟩
end Go.Proofs.Ytnfkjblhnpnaeaa
