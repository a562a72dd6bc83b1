/- What is proved: the steps At and After of a script answer alike in the program's store and the document's; the stores lie in memory. -/
import Derived.Test.YtnjpbagfbklofaaCStp
namespace Go.Proofs.Ytnjpbagfbklofaa
open Go.RowKit

set_option maxRecDepth 100000 in
set_option maxHeartbeats 1600000 in
theorem step_at {w wr : World} {sb rb : Nat} {A : List En} {F G : Nat → Prop} (h : Duo w wr sb rb A A F G) (t : Int) (k : ByteArray) (hk : k.size ≤ maxLen) (x : Vn) (hn : A.length + 1 ≤ 3909374676537) : Stp w wr sb rb A ⟨2, t, k, x⟩ := by
  unfold Stp
  rw [show stp A ⟨2, t, k, x⟩ = A from rfl]
  unfold opA
  simp only
  have D0 : Hid _ := h.on ((Same.refl _ wr).alloc (.cells #[.int .i64 2, .int .i64 t, .string k, .int .i64 x.c, .int .i64 x.w, .bool x.f, .string x.v] 33 (0, 0)))
  have G0 : Hid _ := heap_new wr (.cells #[.int .i64 2, .int .i64 t, .string k, .int .i64 x.c, .int .i64 x.w, .bool x.f, .string x.v] 33 (0, 0))
  have HGD : Hid (Good A) := h.a.good
  clear h
  go_enter Try.func11, Try.ntmps11
  go_upto_region 1 with fail
  generalize wr.alloc (.cells #[.int .i64 2, .int .i64 t, .string k, .int .i64 x.c, .int .i64 x.w, .bool x.f, .string x.v] 33 (0, 0)) = Y at *
  generalize wr.heap.size = g at *
  obtain ⟨c0, c1, c2, c3, c4, c5, c6⟩ := op_obj (o := ⟨2, t, k, x⟩) G0.out
  have hg := lt_of_heap G0.out
  simp only at c0 c1 c2 c3 c4 c5 c6
  have HI : Hid _ := at13 (Duo.a D0.out) k hk t (by omega)
  have HRT : Hid (∀ W, Kept Y W → _) := fun W kw => rat13 (Duo.b (Duo.on D0.out kw)) HGD.out k t (by omega)
  generalize atM (ch A k) t = oo at *
  generalize hp : ans oo = p at *
  generalize hb : oo.isSome = ba at *
  clear hp hb
  go_wp2_with fail
  refine Calls.mono HI.out ?_
  rintro e w1 ⟨rfl, k1⟩
  have K1 : Hid (Kept Y (w1.alloc (.cells #[.int .i64 p.c, .int .i64 p.w, .bool p.f, .string p.v] 31 (0, 0)))) := k1.alloc _
  have G1 : Hid _ := heap_new w1 (.cells #[.int .i64 p.c, .int .i64 p.w, .bool p.f, .string p.v] 31 (0, 0))
  clear k1 HI c0 c1 c2 c3 c4 c5 c6 hg
  go_upto_region 8 with fail
  generalize w1.alloc (.cells #[.int .i64 p.c, .int .i64 p.w, .bool p.f, .string p.v] 31 (0, 0)) = Y1 at *
  generalize w1.heap.size = g1 at *
  obtain ⟨c0, c1, c2, c3, c4, c5, c6⟩ := op_obj (o := ⟨2, t, k, x⟩) ((K1.out.block g (lt_of_heap G0.out) (fun e => e)).trans G0.out)
  have hg : g < Y1.heap.size := Nat.lt_of_lt_of_le (lt_of_heap G0.out) K1.out.size
  simp only at c0 c1 c2 c3 c4 c5 c6
  have HR : Hid _ := HRT.out _ K1.out
  clear HRT
  go_wp2_with fail
  refine Calls.mono HR.out ?_
  rintro e w2 ⟨en, rfl, hen, k2⟩
  have HEN : Hid _ := hen
  have K2 : Hid (Kept Y1 (w2.alloc (.cells #[.string en.key, .int .i64 en.x.c, .int .i64 en.x.w, .bool en.x.f, .string en.x.v] 52 (0, 0)))) := k2.alloc _
  have G2 : Hid _ := heap_new w2 (.cells #[.string en.key, .int .i64 en.x.c, .int .i64 en.x.w, .bool en.x.f, .string en.x.v] 52 (0, 0))
  clear k2 hen HR c0 c1 c2 c3 c4 c5 c6 hg
  go_upto_region 9 with fail
  generalize w2.alloc (.cells #[.string en.key, .int .i64 en.x.c, .int .i64 en.x.w, .bool en.x.f, .string en.x.v] 52 (0, 0)) = Y2 at *
  generalize w2.heap.size = g2 at *
  obtain ⟨c0, c1, c2, c3, c4, c5, c6⟩ := op_obj (o := ⟨2, t, k, x⟩) (((Same.trans' K1.out K2.out).block g (lt_of_heap G0.out) (fun e => e)).trans G0.out)
  have hg : g < Y2.heap.size := Nat.lt_of_lt_of_le (lt_of_heap G0.out) (Same.trans' K1.out K2.out).size
  simp only at c0 c1 c2 c3 c4 c5 c6
  obtain ⟨⟨m0, m1, m2, m3⟩, -⟩ := ver_obj ((K2.out.block g1 (lt_of_heap G1.out) (fun e => e)).trans G1.out)
  obtain ⟨⟨n0, n1, n2, n3, n4⟩, -⟩ := en_obj G2.out
  have hg1 : g1 < Y2.heap.size := Nat.lt_of_lt_of_le (lt_of_heap G1.out) K2.out.size
  have hg2 := lt_of_heap G2.out
  have HL : Hid _ := like_any p en.key Y2
  obtain ⟨ek, ex⟩ := en
  obtain rfl : ex = p := HEN.out
  have bb : (ba == ba) = true := by simp
  unfold verV enV at HL
  simp only at HL n0 n1 n2 n3 n4 ⊢
  go_wp2_with fail
  refine Calls.mono HL.out ?_
  rintro e w3 ⟨rfl, k3⟩
  go_wp2_with fail
  go_ret
  exact ⟨rfl, F, G, Duo.on D0.out (Same.trans' K1.out (Same.trans' K2.out k3))⟩
set_option maxRecDepth 100000 in
set_option maxHeartbeats 1600000 in
theorem step_after {w wr : World} {sb rb : Nat} {A : List En} {F G : Nat → Prop} (h : Duo w wr sb rb A A F G) (t : Int) (k : ByteArray) (hk : k.size ≤ maxLen) (x : Vn) (hn : A.length + 1 ≤ 3909374676537) : Stp w wr sb rb A ⟨3, t, k, x⟩ := by
  unfold Stp
  rw [show stp A ⟨3, t, k, x⟩ = A from rfl]
  unfold opA
  simp only
  have D0 : Hid _ := h.on ((Same.refl _ wr).alloc (.cells #[.int .i64 3, .int .i64 t, .string k, .int .i64 x.c, .int .i64 x.w, .bool x.f, .string x.v] 33 (0, 0)))
  have G0 : Hid _ := heap_new wr (.cells #[.int .i64 3, .int .i64 t, .string k, .int .i64 x.c, .int .i64 x.w, .bool x.f, .string x.v] 33 (0, 0))
  have HGD : Hid (Good A) := h.a.good
  clear h
  go_enter Try.func11, Try.ntmps11
  go_upto_region 1 with fail
  generalize wr.alloc (.cells #[.int .i64 3, .int .i64 t, .string k, .int .i64 x.c, .int .i64 x.w, .bool x.f, .string x.v] 33 (0, 0)) = Y at *
  generalize wr.heap.size = g at *
  obtain ⟨c0, c1, c2, c3, c4, c5, c6⟩ := op_obj (o := ⟨3, t, k, x⟩) G0.out
  have hg := lt_of_heap G0.out
  simp only at c0 c1 c2 c3 c4 c5 c6
  have HI : Hid _ := at13 (Duo.a D0.out) k hk t (by omega)
  have HRT : Hid (∀ W, Kept Y W → _) := fun W kw => rat13 (Duo.b (Duo.on D0.out kw)) HGD.out k t (by omega)
  have HAF : Hid (∀ W, Kept Y W → _) := fun W kw => after13 (Duo.a (Duo.on D0.out kw)) k hk t (by omega)
  have HRA : Hid (∀ W, Kept Y W → _) := fun W kw => rafter13 (Duo.b (Duo.on D0.out kw)) HGD.out k t (by omega)
  generalize atM (ch A k) t = oo at *
  generalize hp : ans oo = p at *
  generalize hb : oo.isSome = ba at *
  generalize afM (ch A k) t = oq at *
  generalize hp2 : ans oq = q at *
  generalize hb2 : oq.isSome = bq at *
  clear hp hb hp2 hb2
  go_wp2_with fail
  refine Calls.mono HI.out ?_
  rintro e w1 ⟨rfl, k1⟩
  have K1 : Hid (Kept Y (w1.alloc (.cells #[.int .i64 p.c, .int .i64 p.w, .bool p.f, .string p.v] 31 (0, 0)))) := k1.alloc _
  have G1 : Hid _ := heap_new w1 (.cells #[.int .i64 p.c, .int .i64 p.w, .bool p.f, .string p.v] 31 (0, 0))
  have L1 : Hid (Y.heap.size ≤ w1.heap.size) := k1.size
  clear k1 HI c0 c1 c2 c3 c4 c5 c6 hg
  go_upto_region 8 with fail
  generalize w1.alloc (.cells #[.int .i64 p.c, .int .i64 p.w, .bool p.f, .string p.v] 31 (0, 0)) = Y1 at *
  generalize w1.heap.size = g1 at *
  obtain ⟨c0, c1, c2, c3, c4, c5, c6⟩ := op_obj (o := ⟨3, t, k, x⟩) ((K1.out.block g (lt_of_heap G0.out) (fun e => e)).trans G0.out)
  have hg : g < Y1.heap.size := Nat.lt_of_lt_of_le (lt_of_heap G0.out) K1.out.size
  simp only at c0 c1 c2 c3 c4 c5 c6
  have HR : Hid _ := HRT.out _ K1.out
  clear HRT
  go_wp2_with fail
  refine Calls.mono HR.out ?_
  rintro e w2 ⟨en, rfl, -, k2⟩
  have K2 : Hid (Kept Y1 (w2.alloc (.cells #[.string en.key, .int .i64 en.x.c, .int .i64 en.x.w, .bool en.x.f, .string en.x.v] 52 (0, 0)))) := k2.alloc _
  have G2 : Hid _ := heap_new w2 (.cells #[.string en.key, .int .i64 en.x.c, .int .i64 en.x.w, .bool en.x.f, .string en.x.v] 52 (0, 0))
  have L2 : Hid (Y1.heap.size ≤ w2.heap.size) := k2.size
  clear k2 HR c0 c1 c2 c3 c4 c5 c6 hg
  go_upto_region 9 with fail
  generalize w2.alloc (.cells #[.string en.key, .int .i64 en.x.c, .int .i64 en.x.w, .bool en.x.f, .string en.x.v] 52 (0, 0)) = Y2 at *
  generalize w2.heap.size = g2 at *
  have KY2 : Hid (Kept Y Y2) := Same.trans' K1.out K2.out
  have GV : Hid _ := (K2.out.block g1 (lt_of_heap G1.out) (fun e => e)).trans G1.out
  have GB : Hid _ := (KY2.out.block g (lt_of_heap G0.out) (fun e => e)).trans G0.out
  have hgg : g < Y.heap.size := lt_of_heap G0.out
  have hne1 : Y.heap.size ≤ g1 := L1.out
  have hne2 : g1 < g2 := Nat.lt_of_lt_of_le (lt_of_heap G1.out) L2.out
  obtain ⟨c0, c1, c2, c3, c4, c5, c6⟩ := op_obj (o := ⟨3, t, k, x⟩) GB.out
  have hg := lt_of_heap GB.out
  simp only at c0 c1 c2 c3 c4 c5 c6
  have HA : Hid _ := HAF.out _ KY2.out
  clear HAF G1 L1 L2 K1 K2
  go_wp2_with fail
  refine Calls.mono HA.out ?_
  rintro e w3 ⟨rfl, k3⟩
  have GV3 : Hid _ := (k3.block g1 (lt_of_heap GV.out) (fun e => e)).trans GV.out
  have GE3 : Hid _ := (k3.block g2 (lt_of_heap G2.out) (fun e => e)).trans G2.out
  have GB3 : Hid _ := (k3.block g (lt_of_heap GB.out) (fun e => e)).trans GB.out
  have KY3 : Hid (Kept Y w3) := Same.trans' KY2.out k3
  clear k3 HA c0 c1 c2 c3 c4 c5 c6 hg GV GB KY2 G2
  obtain ⟨⟨m0, m1, m2, m3⟩, f0, f1, f2, f3⟩ := ver_obj GV3.out
  have hg1 := lt_of_heap GV3.out
  go_upto_region 11 with fail
  have GV4 : Hid _ := put4 GV3.out (.int .i64 q.c) (.int .i64 q.w) (.bool q.f) (.string q.v)
  have KY4 : Hid (Kept Y _) := put4_same KY3.out (g := g1) (.inl hne1) (.int .i64 q.c) (.int .i64 q.w) (.bool q.f) (.string q.v)
  have SV : Hid _ := put4_same (S := fun b => b = g1) (Same.refl _ w3) (g := g1) (.inr rfl) (.int .i64 q.c) (.int .i64 q.w) (.bool q.f) (.string q.v)
  generalize ((((w3.setCell ⟨g1, 0, none⟩ (.int .i64 q.c)).setCell ⟨g1, 1, none⟩ (.int .i64 q.w)).setCell ⟨g1, 2, none⟩ (.bool q.f)).setCell ⟨g1, 3, none⟩ (.string q.v)) = Y3 at *
  have GE4 : Hid _ := (SV.out.block g2 (lt_of_heap GE3.out) (fun e => by omega)).trans GE3.out
  have GB4 : Hid _ := (SV.out.block g (lt_of_heap GB3.out) (fun e => by omega)).trans GB3.out
  clear m0 m1 m2 m3 f0 f1 f2 f3 hg1 GV3 GE3 GB3 SV
  obtain ⟨c0, c1, c2, c3, c4, c5, c6⟩ := op_obj (o := ⟨3, t, k, x⟩) GB4.out
  have hg := lt_of_heap GB4.out
  simp only at c0 c1 c2 c3 c4 c5 c6
  have HA : Hid _ := HRA.out _ KY4.out
  clear HRA
  go_wp2_with fail
  refine Calls.mono HA.out ?_
  rintro e w5 ⟨en2, rfl, hen, k5⟩
  have HEN : Hid _ := hen
  have GV5 : Hid _ := (k5.block g1 (lt_of_heap GV4.out) (fun e => e)).trans GV4.out
  have GE5 : Hid _ := (k5.block g2 (lt_of_heap GE4.out) (fun e => e)).trans GE4.out
  have KY5 : Hid (Kept Y w5) := Same.trans' KY4.out k5
  clear k5 HA c0 c1 c2 c3 c4 c5 c6 hg GV4 GE4 GB4 hen
  obtain ⟨⟨n0, n1, n2, n3, n4⟩, f0, f1, f2, f3, f4⟩ := en_obj GE5.out
  have hg2 := lt_of_heap GE5.out
  go_upto_region 12 with fail
  have GE6 : Hid _ := put5 GE5.out (.string en2.key) (.int .i64 en2.x.c) (.int .i64 en2.x.w) (.bool en2.x.f) (.string en2.x.v)
  have KY6 : Hid (Kept Y _) := put5_same KY5.out (g := g2) (.inl (by omega)) (.string en2.key) (.int .i64 en2.x.c) (.int .i64 en2.x.w) (.bool en2.x.f) (.string en2.x.v)
  have SV : Hid _ := put5_same (S := fun b => b = g2) (Same.refl _ w5) (g := g2) (.inr rfl) (.string en2.key) (.int .i64 en2.x.c) (.int .i64 en2.x.w) (.bool en2.x.f) (.string en2.x.v)
  generalize (((((w5.setCell ⟨g2, 0, none⟩ (.string en2.key)).setCell ⟨g2, 1, none⟩ (.int .i64 en2.x.c)).setCell ⟨g2, 2, none⟩ (.int .i64 en2.x.w)).setCell ⟨g2, 3, none⟩ (.bool en2.x.f)).setCell ⟨g2, 4, none⟩ (.string en2.x.v)) = Y5 at *
  have GV6 : Hid _ := (SV.out.block g1 (lt_of_heap GV5.out) (fun e => by omega)).trans GV5.out
  clear n0 n1 n2 n3 n4 f0 f1 f2 f3 f4 hg2 GV5 GE5 SV
  obtain ⟨⟨m0, m1, m2, m3⟩, -⟩ := ver_obj GV6.out
  obtain ⟨⟨n0, n1, n2, n3, n4⟩, -⟩ := en_obj GE6.out
  have hg1 := lt_of_heap GV6.out
  have hg2 := lt_of_heap GE6.out
  have HL : Hid _ := like_any q en2.key Y5
  obtain ⟨ek, ex⟩ := en2
  obtain rfl : ex = q := HEN.out
  have bb : (bq == bq) = true := by simp
  unfold verV enV at HL
  simp only at HL n0 n1 n2 n3 n4 ⊢
  go_wp2_with fail
  refine Calls.mono HL.out ?_
  rintro e w7 ⟨rfl, k7⟩
  go_wp2_with fail
  go_ret
  exact ⟨rfl, F, G, Duo.on D0.out (Same.trans' KY6.out k7)⟩
end Go.Proofs.Ytnjpbagfbklofaa
