/- What is proved: the reader's op: one operation read; condition: the text's length. -/
import Derived.Test.YtlldgibpajbabaaDoorNoRd
namespace Go.Proofs.YtlldgibpajbabaaDoor
open Go.RowKit

def bts (l : List UInt8) : ByteArray := ⟨l.toArray⟩
def word1 (s : Rs) : List UInt8 := (wrdO s).getD []
/-- One operation read. -/
def opR (s : Rs) : OpM × Rs :=
  let s1 := mst [32] s
  if hasp [114, 40] s1 = true then
    let s2 := cutp [114, 40] s1
    let s4 := mst [41, 61] (wrdS s2)
    if hasp [45] s4 = true then (⟨1, bts (word1 s2), false, bts []⟩, cutp [45] s4)
    else (⟨1, bts (word1 s2), true, bts (word1 (cutp [45] s4))⟩, wrdS (cutp [45] s4))
  else
    let s2 := cutp [114, 40] s1
    if hasp [119, 40] s2 = true then
      let s3 := cutp [119, 40] s2
      let s4 := mst [41, 61] (wrdS s3)
      (⟨2, bts (word1 s3), true, bts (word1 s4)⟩, wrdS s4)
    else
      let s3 := mst [100, 40] (cutp [119, 40] s2)
      (⟨3, bts (word1 s3), false, bts []⟩, mst [41] (wrdS s3))
theorem Rs.ok.op {s : Rs} (h : s.ok) : (opR s).2.ok := by
  unfold opR
  dsimp only
  split
  · split
    · exact (((h.mst _).cut _).wrd.mst _).cut _
    · exact ((((h.mst _).cut _).wrd.mst _).cut _).wrd
  · split
    · exact ((((h.mst _).cut _).cut _).wrd.mst _).wrd
    · exact ((((h.mst _).cut _).cut _).mst _).wrd.mst _

theorem Mv.box {rb b : Nat} {w w' : World} {o : Obj} (h : Mv rb w w') (hb : w.heap[b]? = some o) (hn : b ≠ rb) : w'.heap[b]? = some o := (h.block b (lt_of_heap hb) hn).trans hb
theorem Mv.get {rb : Nat} {w W W' : World} (h : Mv rb w W) (k : Mv rb W W') : Mv rb w W' := h.trans' k
/-- A box of one's own was written. -/
theorem Mv.own {rb b : Nat} {w W W' : World} (h : Mv rb w W) (k : Same (fun i => i = b) W W') (hb : w.heap.size ≤ b) : Mv rb w W' := Same.trans h k (fun i hi e => by omega)
theorem RdAt.off {rb b : Nat} {W W' : World} {s : Rs} (h : RdAt W rb s) (k : Same (fun i => i = b) W W') (hn : rb ≠ b) : RdAt W' rb s := (k.block rb (lt_of_heap h) hn).trans h

/-- The reader and two boxes of operations, since w. -/
structure Ob (w W : World) (rb b2 b3 : Nat) (s : Rs) (o2 o3 : Obj) : Prop where
  rd : RdAt W rb s
  b2 : W.heap[b2]? = some o2
  b3 : W.heap[b3]? = some o3
  mv : Mv rb w W
theorem Ob.start {w W : World} {rb : Nat} {s : Rs} {o2 : Obj} (hr : RdAt W rb s) (h2 : W.heap[w.heap.size]? = some o2) (m : Mv rb w W) (o3 : Obj) : Ob w (W.alloc o3) rb w.heap.size W.heap.size s o2 o3 :=
  ⟨hr.kept ((Same.refl _ W).alloc _), (heap_old W _ (lt_of_heap h2)).trans h2, heap_new W _, m.alloc _⟩
theorem Ob.on {w W W' : World} {rb b2 b3 : Nat} {s s' : Rs} {o2 o3 : Obj} (h : Ob w W rb b2 b3 s o2 o3) (hr : RdAt W' rb s') (m : Mv rb W W') (h2 : b2 ≠ rb) (h3 : b3 ≠ rb) : Ob w W' rb b2 b3 s' o2 o3 :=
  ⟨hr, m.box h.b2 h2, m.box h.b3 h3, h.mv.get m⟩
theorem Ob.done {w W : World} {rb b2 b3 : Nat} {s : Rs} {u0 u1 u2 u3 : Value} {o3 : Obj} (h : Ob w W rb b2 b3 s (opO u0 u1 u2 u3) o3) (h2 : rb < b2) (hw : w.heap.size ≤ b2) (o : OpM) : (put4 W b2 (.int .i64 o.kind) (.string o.key) (.bool o.found) (.string o.value)).heap[b2]? = some (opO (.int .i64 o.kind) (.string o.key) (.bool o.found) (.string o.value)) ∧ RdAt (put4 W b2 (.int .i64 o.kind) (.string o.key) (.bool o.found) (.string o.value)) rb s ∧ Mv rb w (put4 W b2 (.int .i64 o.kind) (.string o.key) (.bool o.found) (.string o.value)) :=
  ⟨put4_at h.b2 _ _ _ _, h.rd.off (put4_same ..) (by omega), h.mv.own (put4_same ..) hw⟩
/-- A cell of the second box is written. -/
theorem Ob.set {w W : World} {rb b2 b3 : Nat} {s : Rs} {o2 : Obj} {arr : Array Value} (h : Ob w W rb b2 b3 s o2 (.cells arr 49 (0, 0))) (h3 : b3 ≠ rb) (h23 : b2 ≠ b3) (hw : w.heap.size ≤ b3) (i : Nat) (v : Value) : Ob w (W.setCell ⟨b3, i, none⟩ v) rb b2 b3 s o2 (.cells (arr.setIfInBounds i v) 49 (0, 0)) :=
  have k : Same (fun j => j = b3) W (W.setCell ⟨b3, i, none⟩ v) := (Same.refl (fun j => j = b3) W).setCell _ (.inr rfl) _
  ⟨h.rd.off k (fun e => h3 e.symm), (k.block b2 (lt_of_heap h.b2) h23).trans h.b2, setCell_at h.b3 i v, h.mv.own k hw⟩

set_option maxRecDepth 100000 in
set_option maxHeartbeats 1600000 in
theorem op_rd {w : World} {rb : Nat} {s : Rs} (h : RdAt w rb s) (hok : s.ok) : Calls Tryd.prog 32 #[rdp rb] w fun e w' => e = .returned (opV (opR s).1) ∧ RdAt w' rb (opR s).2 ∧ Mv rb w w' := by
  have hlt := lt_of_heap h
  have HM : Hid (∀ W s p, RdAt W rb s → Calls Tryd.prog 30 #[rdp rb, tx p] W _) := fun W s p h => must_any h p
  have HS : Hid (∀ W s p, RdAt W rb s → Calls Tryd.prog 52 #[rdp rb, tx p] W _) := fun W s p h => skip_any h p
  have HW : Hid (∀ W s, RdAt W rb s → s.ok → Calls Tryd.prog 53 #[rdp rb] W _) := fun W s h => word_rd h
  have H0 : Hid (RdAt w rb s) := h
  have HU : Hid (opR s = opR s) := rfl
  unfold Hid at HU
  conv at HU => rhs; unfold opR
  dsimp only at HU
  have HV : Hid _ := HU
  have ok1 := hok.mst [32]
  clear h HU hok
  generalize hR : opR s = R at *
  clear hR
  obtain ⟨Rv, Rs'⟩ := R
  dsimp only
  go_enter Tryd.func32, Tryd.ntmps32
  go_wp2_with fail
  refine Calls.mono (HM.out _ _ [32] (RdAt.kept H0.out ((Same.refl _ w).alloc _))) ?_
  rintro e w1 ⟨rfl, r1, m1⟩
  have b1 := m1.box (heap_new w _) (by omega)
  have M1 : Hid (Mv rb w w1) := ((Same.refl _ w).alloc _).trans' m1
  generalize mst [32] s = s1 at *
  have R1 : Hid _ := And.intro r1 b1
  clear r1 b1 m1 H0
  go_wp2_with fail
  refine Calls.mono (HS.out _ _ [114, 40] R1.out.1) ?_
  rintro e w2 ⟨rfl, r2, m2⟩
  have R2 : Hid _ := And.intro r2 (m2.box R1.out.2 (by omega))
  have M2 : Hid (Mv rb w w2) := M1.out.get m2
  clear r2 m2 R1 M1
  cases hp : hasp [114, 40] s1
  · rw [hp] at HV
    simp only [Bool.false_eq_true, if_false] at HV
    have ok2 := ok1.cut [114, 40]
    generalize cutp [114, 40] s1 = s2 at *
    go_wp2_with fail
    refine Calls.mono (HS.out _ _ [119, 40] R2.out.1) ?_
    rintro e w3 ⟨rfl, r3, m3⟩
    have R3 : Hid _ := And.intro r3 (m3.box R2.out.2 (by omega))
    have M3 : Hid (Mv rb w w3) := M2.out.get m3
    have ok3 := ok2.cut [119, 40]
    clear r3 m3 R2 M2
    cases hq : hasp [119, 40] s2
    · rw [hq] at HV
      simp only [Bool.false_eq_true, if_false] at HV
      generalize cutp [119, 40] s2 = s3 at *
      go_wp2_with fail
      refine Calls.mono (HM.out _ _ [100, 40] R3.out.1) ?_
      rintro e w4 ⟨rfl, r4, m4⟩
      have R4 : Hid _ := And.intro r4 (m4.box R3.out.2 (by omega))
      have M4 : Hid (Mv rb w w4) := M3.out.get m4
      have ok4 := ok3.mst [100, 40]
      clear r4 m4 R3 M3
      generalize mst [100, 40] s3 = s4 at *
      go_wp2_with fail
      refine Calls.mono (HW.out _ _ R4.out.1 ok4) ?_
      rintro e w5 ⟨rfl, r5, m5⟩
      have EK : Hid (word1 s4 = (wrdO s4).getD []) := rfl
      have hz5 := (M4.out.get m5).size
      have O5 : Hid _ := Ob.start r5 (m5.box R4.out.2 (by omega)) (M4.out.get m5) (opO (.int .i64 3) (tx (word1 s4)) (.bool false) (.string ⟨#[]⟩))
      rw [← EK.out]
      clear EK r5 m5 R4 M4
      generalize word1 s4 = k at *
      generalize wrdS s4 = s5 at *
      unfold opO at O5
      go_wp2_with fail
      refine Calls.mono (HM.out _ _ [41] O5.out.rd) ?_
      rintro e w6 ⟨rfl, r6, m6⟩
      have o6 := O5.out.on r6 m6 (by omega) (by omega)
      obtain ⟨⟨d0, d1, d2, d3⟩, f0, f1, f2, f3⟩ := op_obj o6.b2
      obtain ⟨⟨p0, p1, p2, p3⟩, g0, g1, g2, g3⟩ := op_obj o6.b3
      have DN : Hid _ := o6.done (by omega) (Nat.le_refl _) ⟨3, bts k, false, bts []⟩
      clear o6 r6 m6 O5
      go_wp2_with fail
      refine bodyPost_ret (results_c (a := 2) (t := 49) rfl rfl (loadVar_op DN.out.1)) rfl ?_
      obtain ⟨rfl, rfl⟩ := Prod.mk.inj HV.out
      exact ⟨rfl, DN.out.2⟩
    · rw [hq] at HV
      simp only [if_true] at HV
      generalize cutp [119, 40] s2 = s3 at *
      go_wp2_with fail
      refine Calls.mono (HW.out _ _ R3.out.1 ok3) ?_
      rintro e w5 ⟨rfl, r5, m5⟩
      have EK : Hid (word1 s3 = (wrdO s3).getD []) := rfl
      have hz5 := (M3.out.get m5).size
      have z7 := lt_of_heap (m5.box R3.out.2 (by omega))
      have O5 : Hid _ := Ob.start r5 (m5.box R3.out.2 (by omega)) (M3.out.get m5) (opO (.int .i64 2) (tx (word1 s3)) (.bool true) (.string ⟨#[]⟩))
      have ok5 := ok3.wrd
      rw [← EK.out]
      clear EK r5 m5 R3 M3
      generalize word1 s3 = k at *
      generalize wrdS s3 = s5 at *
      unfold opO at O5
      go_wp2_with fail
      refine Calls.mono (HM.out _ _ [41, 61] O5.out.rd) ?_
      rintro e w6 ⟨rfl, r6, m6⟩
      have O6 : Hid _ := O5.out.on r6 m6 (by omega) (by omega)
      have ok6 := ok5.mst [41, 61]
      clear r6 m6 O5
      generalize mst [41, 61] s5 = s6 at *
      go_wp2_with fail
      refine Calls.mono (HW.out _ _ O6.out.rd ok6) ?_
      rintro e w7 ⟨rfl, r7, m7⟩
      have EK : Hid (word1 s6 = (wrdO s6).getD []) := rfl
      rw [← EK.out]
      clear EK
      have o7 := O6.out.on r7 m7 (by omega) (by omega)
      generalize word1 s6 = v at *
      generalize wrdS s6 = s7 at *
      have O7 : Hid _ := o7.set (by omega) (by omega) hz5 3 (tx v)
      obtain ⟨⟨d0, d1, d2, d3⟩, f0, f1, f2, f3⟩ := op_obj o7.b2
      obtain ⟨⟨p0, p1, p2, p3⟩, g0, g1, g2, g3⟩ := op_obj o7.b3
      have DN : Hid _ := O7.out.done (by omega) (Nat.le_refl _) ⟨2, bts k, true, bts v⟩
      clear o7 r7 m7 O6
      go_wp2_with fail
      refine bodyPost_ret (results_c (a := 2) (t := 49) rfl rfl (loadVar_op DN.out.1)) rfl ?_
      obtain ⟨rfl, rfl⟩ := Prod.mk.inj HV.out
      exact ⟨rfl, DN.out.2⟩
  · rw [hp] at HV
    simp only [if_true] at HV
    have ok2 := ok1.cut [114, 40]
    generalize cutp [114, 40] s1 = s3 at *
    go_wp2_with fail
    refine Calls.mono (HW.out _ _ R2.out.1 ok2) ?_
    rintro e w5 ⟨rfl, r5, m5⟩
    have EK : Hid (word1 s3 = (wrdO s3).getD []) := rfl
    have hz5 := (M2.out.get m5).size
    have z7 := lt_of_heap (m5.box R2.out.2 (by omega))
    have O5 : Hid _ := Ob.start r5 (m5.box R2.out.2 (by omega)) (M2.out.get m5) (opO (.int .i64 1) (tx (word1 s3)) (.bool false) (.string ⟨#[]⟩))
    have ok5 := ok2.wrd
    rw [← EK.out]
    clear EK r5 m5 R2 M2
    generalize word1 s3 = k at *
    generalize wrdS s3 = s5 at *
    unfold opO at O5
    go_wp2_with fail
    refine Calls.mono (HM.out _ _ [41, 61] O5.out.rd) ?_
    rintro e w6 ⟨rfl, r6, m6⟩
    have O6 : Hid _ := O5.out.on r6 m6 (by omega) (by omega)
    have ok6 := ok5.mst [41, 61]
    clear r6 m6 O5
    generalize mst [41, 61] s5 = s6 at *
    go_wp2_with fail
    refine Calls.mono (HS.out _ _ [45] O6.out.rd) ?_
    rintro e w7 ⟨rfl, r7, m7⟩
    have ok7 := ok6.cut [45]
    have O7 : Hid _ := O6.out.on r7 m7 (by omega) (by omega)
    clear r7 m7 O6
    cases hq : hasp [45] s6
    · rw [hq] at HV
      simp only [Bool.false_eq_true, if_false] at HV
      generalize cutp [45] s6 = s7 at *
      go_wp2_with fail
      refine Calls.mono (HW.out _ _ O7.out.rd ok7) ?_
      rintro e w8 ⟨rfl, r8, m8⟩
      have EK : Hid (word1 s7 = (wrdO s7).getD []) := rfl
      rw [← EK.out]
      clear EK
      have o8 := O7.out.on r8 m8 (by omega) (by omega)
      generalize word1 s7 = v at *
      generalize wrdS s7 = s8 at *
      have O8 : Hid _ := (o8.set (by omega) (by omega) hz5 2 (.bool true)).set (by omega) (by omega) hz5 3 (tx v)
      obtain ⟨⟨d0, d1, d2, d3⟩, f0, f1, f2, f3⟩ := op_obj o8.b2
      obtain ⟨⟨p0, p1, p2, p3⟩, g0, g1, g2, g3⟩ := op_obj o8.b3
      have DN : Hid _ := O8.out.done (by omega) (Nat.le_refl _) ⟨1, bts k, true, bts v⟩
      clear o8 r8 m8 O7
      go_wp2_with fail
      refine bodyPost_ret (results_c (a := 2) (t := 49) rfl rfl (loadVar_op DN.out.1)) rfl ?_
      obtain ⟨rfl, rfl⟩ := Prod.mk.inj HV.out
      exact ⟨rfl, DN.out.2⟩
    · rw [hq] at HV
      simp only [if_true] at HV
      generalize cutp [45] s6 = s7 at *
      have o8 := O7.out
      obtain ⟨⟨d0, d1, d2, d3⟩, f0, f1, f2, f3⟩ := op_obj o8.b2
      obtain ⟨⟨p0, p1, p2, p3⟩, g0, g1, g2, g3⟩ := op_obj o8.b3
      have DN : Hid _ := O7.out.done (by omega) (Nat.le_refl _) ⟨1, bts k, false, bts []⟩
      clear o8
      go_wp2_with fail
      refine bodyPost_ret (results_c (a := 2) (t := 49) rfl rfl (loadVar_op DN.out.1)) rfl ?_
      obtain ⟨rfl, rfl⟩ := Prod.mk.inj HV.out
      exact ⟨rfl, DN.out.2⟩
end Go.Proofs.YtlldgibpajbabaaDoor
