/- What is proved: a store of the program's and one of the document's beside one another, apart in memory: what a step of a script leaves of both. -/
import Derived.Test.YtnjpbagfbklofaaCRefF
import Derived.Test.YtnjpbagfbklofaaCTwo
namespace Go.Proofs.Ytnjpbagfbklofaa
open Go.RowKit

abbrev opA (o : OpC) : Array Value := #[.int .i64 o.kind, .int .i64 o.time, .string o.key, .int .i64 o.x.c, .int .i64 o.x.w, .bool o.x.f, .string o.x.v]
theorem op_obj {w : World} {b : Nat} {o : OpC} (h : w.heap[b]? = some (.cells (opA o) 33 (0, 0))) :
    w.cell? ⟨b, 0, none⟩ = some (.int .i64 o.kind) ∧ w.cell? ⟨b, 1, none⟩ = some (.int .i64 o.time) ∧ w.cell? ⟨b, 2, none⟩ = some (.string o.key) ∧ w.cell? ⟨b, 3, none⟩ = some (.int .i64 o.x.c) ∧ w.cell? ⟨b, 4, none⟩ = some (.int .i64 o.x.w) ∧ w.cell? ⟨b, 5, none⟩ = some (.bool o.x.f) ∧ w.cell? ⟨b, 6, none⟩ = some (.string o.x.v) :=
  ⟨(cell_of h 0).trans rfl, (cell_of h 1).trans rfl, (cell_of h 2).trans rfl, (cell_of h 3).trans rfl, (cell_of h 4).trans rfl, (cell_of h 5).trans rfl, (cell_of h 6).trans rfl⟩
/-- The program's store and the document's, made since w. -/
structure Duo (w wr : World) (sb rb : Nat) (A B : List En) (F G : Nat → Prop) : Prop where
  a : St F wr sb A
  b : RSt G wr rb B
  dis : ∀ x, F x → ¬ G x
  la : ∀ x, F x → w.heap.size ≤ x
  lb : ∀ x, G x → w.heap.size ≤ x
  kept : Kept w wr
theorem Duo.on {w wr w' : World} {sb rb : Nat} {A B : List En} {F G : Nat → Prop} (h : Duo w wr sb rb A B F G) (k : Kept wr w') : Duo w w' sb rb A B F G := ⟨h.a.on k, h.b.on k, h.dis, h.la, h.lb, h.kept.trans' k⟩
theorem Duo.ins {w wr w' : World} {sb rb : Nat} {A A' B : List En} {F G : Nat → Prop} (h : Duo w wr sb rb A B F G) (hi : InsP F wr sb A' w') : ∃ F', Duo w w' sb rb A' B F' G ∧ Same F wr w' := by
  obtain ⟨F', q1, q2, q3⟩ := hi
  refine ⟨F', ⟨q1, h.b.off q3 (fun x hx hf => h.dis x hf hx), fun x hx hg => ?_, fun x hx => ?_, h.lb, h.kept.trans q3 (fun i hi hf => ?_)⟩, q3⟩
  · rcases q2 x hx with h1 | h1
    · exact h.dis x h1 hg
    · have := h.b.lt x hg; omega
  · rcases q2 x hx with h1 | h1
    · exact h.la x h1
    · exact Nat.le_trans h.kept.size h1
  · have := h.la i hf; omega
theorem Duo.rins {w wr w' : World} {sb rb : Nat} {A B B' : List En} {F G : Nat → Prop} (h : Duo w wr sb rb A B F G) (hi : RInsP G wr rb B' w') : ∃ G', Duo w w' sb rb A B' F G' ∧ Same G wr w' := by
  obtain ⟨G', q1, q2, q3⟩ := hi
  refine ⟨G', ⟨h.a.off q3 (fun x hx hf => h.dis x hx hf), q1, fun x hf hx => ?_, h.la, fun x hx => ?_, h.kept.trans q3 (fun i hi hf => ?_)⟩, q3⟩
  · rcases q2 x hx with h1 | h1
    · exact h.dis x hf h1
    · have := h.a.lt x hf; omega
  · rcases q2 x hx with h1 | h1
    · exact h.lb x h1
    · exact Nat.le_trans h.kept.size h1
  · have := h.lb i hf; omega
theorem Duo.prn {w wr w' : World} {sb rb : Nat} {A A' B : List En} {F G : Nat → Prop} (h : Duo w wr sb rb A B F G) (hs : St F w' sb A') (s : Same F wr w') : Duo w w' sb rb A' B F G :=
  ⟨hs, h.b.off s (fun x hx hf => h.dis x hf hx), h.dis, h.la, h.lb, h.kept.trans s (fun i hi hf => by have := h.la i hf; omega)⟩
/-- What a step leaves. -/
def stp (A : List En) (o : OpC) : List En := if o.kind = 1 then inst A o.key o.x else if o.kind = 6 then prn A o.time else A
theorem stp_length (A : List En) (o : OpC) : (stp A o).length ≤ A.length + 1 := by
  unfold stp
  split
  · exact inst_length A o.key o.x
  · split
    · have := prn_length A o.time; omega
    · omega
abbrev Stp (w wr : World) (sb rb : Nat) (A : List En) (o : OpC) : Prop :=
  Calls Try.prog 11 #[.pointer (some ⟨sb, 0, none⟩), .pointer (some ⟨rb, 0, none⟩), .agg (opA o)] wr fun e w' => e = .returned (.bool true) ∧ ∃ F' G', Duo w w' sb rb (stp A o) (stp A o) F' G'
set_option maxRecDepth 100000 in
set_option maxHeartbeats 1600000 in
theorem step_ins {w wr : World} {sb rb : Nat} {A : List En} {F G : Nat → Prop} (h : Duo w wr sb rb A A F G) (t : Int) (k : ByteArray) (hk : k.size ≤ maxLen) (x : Vn) (hn : A.length + 1 ≤ 3909374676537) : Stp w wr sb rb A ⟨1, t, k, x⟩ := by
  unfold Stp
  rw [show stp A ⟨1, t, k, x⟩ = inst A k x from rfl]
  unfold opA
  simp only
  have D0 : Hid _ := h.on ((Same.refl _ wr).alloc (.cells #[.int .i64 1, .int .i64 t, .string k, .int .i64 x.c, .int .i64 x.w, .bool x.f, .string x.v] 33 (0, 0)))
  have G0 : Hid _ := heap_new wr (.cells #[.int .i64 1, .int .i64 t, .string k, .int .i64 x.c, .int .i64 x.w, .bool x.f, .string x.v] 33 (0, 0))
  have HGF : Hid (∀ b, F b → b ≠ wr.heap.size) := fun b hb e => by have := h.a.lt b hb; omega
  clear h
  go_enter Try.func11, Try.ntmps11
  go_upto_region 1 with fail
  generalize wr.alloc (.cells #[.int .i64 1, .int .i64 t, .string k, .int .i64 x.c, .int .i64 x.w, .bool x.f, .string x.v] 33 (0, 0)) = Y at *
  generalize wr.heap.size = g at *
  obtain ⟨c0, c1, c2, c3, c4, c5, c6⟩ := op_obj (o := ⟨1, t, k, x⟩) G0.out
  have hg := lt_of_heap G0.out
  simp only at c0 c1 c2 c3 c4 c5 c6
  have HI : Hid _ := install13 (Duo.a D0.out) k hk x (by omega)
  unfold verV at HI
  go_wp2_with fail
  refine Calls.mono HI.out ?_
  rintro e w1 ⟨rfl, hi⟩
  obtain ⟨F1, d1, s1⟩ := Duo.ins D0.out hi
  have D1 : Hid _ := d1
  have G1 : Hid _ := (s1.block g hg (fun hf => HGF.out g hf rfl)).trans G0.out
  clear d1 s1 hi c0 c1 c2 c3 c4 c5 c6 hg HI
  obtain ⟨c0, c1, c2, c3, c4, c5, c6⟩ := op_obj (o := ⟨1, t, k, x⟩) G1.out
  have hg := lt_of_heap G1.out
  simp only at c0 c1 c2 c3 c4 c5 c6
  have HW : Hid _ := with_any k x w1
  unfold verV at HW
  go_wp2_with fail
  refine Calls.mono HW.out ?_
  rintro e w2 ⟨rfl, k2⟩
  have D2 : Hid _ := Duo.on D1.out k2
  have HR : Hid _ := rinstall13 (Duo.b D2.out) k hk x hn
  clear k2 HW c0 c1 c2 c3 c4 c5 c6 hg
  unfold enV at HR ⊢
  simp only at HR ⊢
  go_wp2_with fail
  refine Calls.mono HR.out ?_
  rintro e w3 ⟨rfl, hi⟩
  obtain ⟨G3, d3, -⟩ := Duo.rins D2.out hi
  have D3 : Hid _ := d3
  clear d3 hi HR
  generalize code A k x = cd at *
  have ce : (cd == cd) = true := by simp
  go_wp2_with fail
  go_ret
  exact ⟨rfl, F1, G3, D3.out⟩
set_option maxRecDepth 100000 in
set_option maxHeartbeats 1600000 in
theorem step_prn {w wr : World} {sb rb : Nat} {A : List En} {F G : Nat → Prop} (h : Duo w wr sb rb A A F G) (t : Int) (k : ByteArray) (x : Vn) (hn : A.length + 1 ≤ 3909374676537) : Stp w wr sb rb A ⟨6, t, k, x⟩ := by
  unfold Stp
  rw [show stp A ⟨6, t, k, x⟩ = prn A t from rfl]
  unfold opA
  simp only
  have D0 : Hid _ := h.on ((Same.refl _ wr).alloc (.cells #[.int .i64 6, .int .i64 t, .string k, .int .i64 x.c, .int .i64 x.w, .bool x.f, .string x.v] 33 (0, 0)))
  have G0 : Hid _ := heap_new wr (.cells #[.int .i64 6, .int .i64 t, .string k, .int .i64 x.c, .int .i64 x.w, .bool x.f, .string x.v] 33 (0, 0))
  have HGF : Hid (∀ b, F b → b ≠ wr.heap.size) := fun b hb e => by have := h.a.lt b hb; omega
  have HGD : Hid (Good A) := h.a.good
  clear h
  go_enter Try.func11, Try.ntmps11
  go_upto_region 1 with fail
  generalize wr.alloc (.cells #[.int .i64 6, .int .i64 t, .string k, .int .i64 x.c, .int .i64 x.w, .bool x.f, .string x.v] 33 (0, 0)) = Y at *
  generalize wr.heap.size = g at *
  obtain ⟨c0, c1, c2, c3, c4, c5, c6⟩ := op_obj (o := ⟨6, t, k, x⟩) G0.out
  have hg := lt_of_heap G0.out
  simp only at c0 c1 c2 c3 c4 c5 c6
  have HI : Hid _ := prune13 (Duo.a D0.out) t (by omega)
  go_wp2_with fail
  refine Calls.mono HI.out ?_
  rintro e w1 ⟨rfl, st1, s1⟩
  have D1 : Hid _ := Duo.prn D0.out st1 s1
  have G1 : Hid _ := (s1.block g hg (fun hf => HGF.out g hf rfl)).trans G0.out
  clear st1 s1 c0 c1 c2 c3 c4 c5 c6 hg HI
  obtain ⟨c0, c1, c2, c3, c4, c5, c6⟩ := op_obj (o := ⟨6, t, k, x⟩) G1.out
  have hg := lt_of_heap G1.out
  simp only at c0 c1 c2 c3 c4 c5 c6
  have HR : Hid _ := rprune13 (Duo.b D1.out) HGD.out t hn
  go_wp2_with fail
  refine Calls.mono HR.out ?_
  rintro e w3 ⟨rfl, hi⟩
  obtain ⟨G3, d3, -⟩ := Duo.rins D1.out hi
  have D3 : Hid _ := d3
  clear d3 hi HR
  generalize A.length - (prn A t).length = cd at *
  have ce : ((cd : Int) == (cd : Int)) = true := by simp
  go_wp2_with fail
  go_ret
  exact ⟨rfl, F, G3, D3.out⟩
set_option maxRecDepth 100000 in
set_option maxHeartbeats 1600000 in
theorem step_none {w wr : World} {sb rb : Nat} {A : List En} {F G : Nat → Prop} (h : Duo w wr sb rb A A F G) (o : OpC) (h1 : o.kind ≠ 1) (h2 : o.kind ≠ 2) (h3 : o.kind ≠ 3) (h4 : o.kind ≠ 4) (h5 : o.kind ≠ 5) (h6 : o.kind ≠ 6) : Stp w wr sb rb A o := by
  unfold Stp
  rw [show stp A o = A by unfold stp; rw [if_neg h1, if_neg h6]]
  unfold opA
  have D0 : Hid _ := h.on ((Same.refl _ wr).alloc (.cells #[.int .i64 o.kind, .int .i64 o.time, .string o.key, .int .i64 o.x.c, .int .i64 o.x.w, .bool o.x.f, .string o.x.v] 33 (0, 0)))
  have d1 : (o.kind == 1) = false := by simpa using h1
  have d2 : (o.kind == 2) = false := by simpa using h2
  have d3 : (o.kind == 3) = false := by simpa using h3
  have d4 : (o.kind == 4) = false := by simpa using h4
  have d5 : (o.kind == 5) = false := by simpa using h5
  have d6 : (o.kind == 6) = false := by simpa using h6
  clear h h1 h2 h3 h4 h5 h6
  go_enter Try.func11, Try.ntmps11
  go_wp2_with fail
  go_ret
  exact ⟨rfl, F, G, D0.out⟩
end Go.Proofs.Ytnjpbagfbklofaa
