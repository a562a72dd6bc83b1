/- What is proved: the law's step answers true where the space and the document's have the same holes, and leaves them so. -/
import Derived.Test.YtfllilgadphlcaaEStep
namespace Go.Proofs.Ytfllilgadphlcaa
open Go.RowKit

theorem op_cells {w : World} {b : Nat} {o : O3} (h : w.heap[b]? = some (opO o)) : w.cell? ⟨b, 0, none⟩ = some (.int .i64 o.k) ∧ w.cell? ⟨b, 1, none⟩ = some (.int .i64 o.f) ∧ w.cell? ⟨b, 2, none⟩ = some (.int .i64 o.c) :=
  ⟨(cell_of h 0).trans rfl, (cell_of h 1).trans rfl, (cell_of h 2).trans rfl⟩
/-- The blocks that a call on the space leaves alone, the step's own box with them. -/
abbrev XB (X : Nat → Prop) (q g b : Nat) : Nat → Prop := fun k => (X k ∨ k = q ∨ k = g) ∨ k = b

set_option maxRecDepth 100000 in
set_option maxHeartbeats 3200000 in
theorem step_alloc {X : Nat → Prop} {w : World} {p q g N : Nat} {L : List Ex} {U : Nat → Bool} (h : Both X w p q g N L U) (hX : ∀ k, X k → k < w.heap.size) (o : O3) (hk : o.k = 1) :
    Calls Try.prog 12 #[.pointer (some ⟨p, 0, none⟩), .pointer (some ⟨q, 0, none⟩), opV o] w fun e w' => e = .returned (.bool true) ∧ Step X w p q g N L o w' := by
  have hN := h.sp.small
  have hlt := h.lt hX
  have HX1 : ∀ k, XB X q g w.heap.size k → k < (w.alloc (opO o)).heap.size := fun k hk => by
    rw [World.size_alloc]
    rcases hk with hk | hk
    · have := hlt k hk; omega
    · omega
  have HC : Hid _ := alloc_x HX1 (h.sp.box (opO o)) o.c
  have HB : Hid _ := h
  have HX1' : Hid _ := HX1
  have HLT : Hid _ := hlt
  have h1' : (o.k == 1) = true := by simp [hk]
  have HK : Hid _ := hk
  clear h hX hlt HX1 hk
  unfold opV opO at *
  go_enter Try.func12, Try.ntmps12
  go_wp2_with fail
  refine Calls.mono HC.out ?_
  rintro r w2 ⟨f, n, e, L', rfl, ⟨hs2, k2⟩, h2⟩
  have rs2 : RS w2 q g N U := RS.kept (RS.on HB.out.rs ((Same.refl _ w).alloc (opO o))) k2 (fun h => h (.inl (.inr (.inl rfl)))) (fun h => h (.inl (.inr (.inr rfl))))
  have hop : w2.heap[w.heap.size]? = some (opO o) := (k2.block _ (by simp) (fun h => h (.inr rfl))).trans (heap_new _ _)
  have hopl := lt_of_heap hop
  have hopA : (w2.alloc (exO ⟨f, n⟩)).heap[w.heap.size]? = some (opO o) := (heap_old _ _ hopl).trans hop
  obtain ⟨y0, y1, y2⟩ := op_cells hopA
  have HOP : Hid _ := hopA
  have HRA : Hid _ := ralloc_any (L := L) (rs2.on ((Same.refl _ w2).alloc (exO ⟨f, n⟩))) hN HB.out.sp.wf HB.out.ag o.c
  have HS2 : Hid _ := hs2
  have K2 : Hid _ := k2
  have H2 : Hid _ := h2
  have hgl : Hid (g < w2.heap.size) := rs2.row.lt
  have hgw : Hid (g < w.heap.size) := HB.out.rs.row.lt
  clear rs2 hop hopA hs2 k2 h2
  unfold exO at *
  go_wp2_with fail
  refine Calls.mono HRA.out ?_
  rintro r w3 ⟨f', e', V, rfl, rs3, k3, h3⟩
  have hop3 : w3.heap[w.heap.size]? = some (opO o) := (k3.block _ (lt_of_heap HOP.out) (fun e => by have := hgw.out; omega)).trans HOP.out
  obtain ⟨z0, z1, z2⟩ := op_cells hop3
  have hbx : w3.heap[w2.heap.size]? = some (exO ⟨f, n⟩) := (k3.block _ (by simp) (fun e => by have := hgl.out; omega)).trans (heap_new _ _)
  have x0 : w3.cell? ⟨w2.heap.size, 0, none⟩ = some (.int .i64 f) := (cell_of hbx 0).trans rfl
  have x1 : w3.cell? ⟨w2.heap.size, 1, none⟩ = some (.int .i64 n) := (cell_of hbx 1).trans rfl
  have l1 := lt_of_heap hop3
  have l2 := lt_of_heap hbx
  have HFIN : Hid (∀ (ag : Ag V N L'), Both X w3 p q g N L' V ∧ Same (fun k => ¬ X k) w w3) := fun ag =>
    both_of (Y := XB X q g w.heap.size) (w1 := w.alloc (opO o)) (w2 := w2.alloc (exO ⟨f, n⟩)) HB.out (fun k hk => .inl hk) ((Same.refl _ _).alloc _) (SpX.on HS2.out ((Same.refl _ _).alloc _)) (K2.out.trans' (Kept.to ((Same.refl _ _).alloc _) _)) rs3 k3 ag
  clear hop3 hbx
  rcases H2.out with ⟨c1, rfl, rfl, rfl, rfl⟩ | ⟨c1, c2, rfl, rfl, rfl, rfl⟩ | ⟨c1, c2, rfl, rfl, c3⟩
  · obtain ⟨rfl, rfl, rfl⟩ : e' = 41 ∧ f' = 0 ∧ V = U := by
      rcases h3 with ⟨_, d1, d2, d3⟩ | ⟨d0, _⟩ | ⟨d0, _⟩
      · exact ⟨d1, d2, d3⟩
      · omega
      · omega
    clear h3 rs3 k3
    go_wp2_with fail
    go_ret
    obtain ⟨q1, q2⟩ := HFIN.out HB.out.ag
    exact ⟨rfl, _, _, q1, q2, StpR.of1 HK.out (.inl ⟨rfl, .inl c1⟩)⟩
  · obtain ⟨rfl, rfl, rfl⟩ : e' = 42 ∧ f' = 0 ∧ V = U := by
      rcases h3 with ⟨d0, _⟩ | ⟨_, _, d1, d2, d3⟩ | ⟨_, d1, _⟩
      · omega
      · exact ⟨d1, d2, d3⟩
      · exact (first_not d1 c2).elim
    have HC2 : Hid _ := c2
    clear h3 rs3 k3 c2
    go_wp2_with fail
    go_ret
    obtain ⟨q1, q2⟩ := HFIN.out HB.out.ag
    exact ⟨rfl, _, _, q1, q2, StpR.of1 HK.out (.inl ⟨rfl, .inr HC2.out⟩)⟩
  · obtain ⟨rfl, rfl, rfl⟩ : e' = 0 ∧ f = (f' : Int) ∧ V = mk U f' o.c.toNat true := by
      rcases h3 with ⟨d0, _⟩ | ⟨_, d1, _⟩ | ⟨_, d1, d2, d3⟩
      · omega
      · exact (first_not c2 d1).elim
      · exact ⟨d2, first_one c2 d1, d3⟩
    have HC2 : Hid _ := c2
    have HC3 : Hid _ := c3
    clear h3 rs3 k3 c2 c3
    go_wp2_with fail
    go_ret
    obtain ⟨q1, q2⟩ := HFIN.out (ag_take HB.out.ag fun b => by rw [HC3.out b]; have : ((o.c.toNat : Nat) : Int) = o.c := by omega
                                                               rw [this])
    exact ⟨rfl, _, _, q1, q2, StpR.of1 HK.out (.inr ⟨c1, _, HC2.out, HC3.out⟩)⟩

set_option maxRecDepth 100000 in
set_option maxHeartbeats 3200000 in
theorem step_take {X : Nat → Prop} {w : World} {p q g N : Nat} {L : List Ex} {U : Nat → Bool} (h : Both X w p q g N L U) (hX : ∀ k, X k → k < w.heap.size) (o : O3) (hf : o.f ≤ 9223372036854775807) (hk : o.k = 2) :
    Calls Try.prog 12 #[.pointer (some ⟨p, 0, none⟩), .pointer (some ⟨q, 0, none⟩), opV o] w fun e w' => e = .returned (.bool true) ∧ Step X w p q g N L o w' := by
  have hN := h.sp.small
  have hlt := h.lt hX
  have HX1 : ∀ k, XB X q g w.heap.size k → k < (w.alloc (opO o)).heap.size := fun k hk => by
    rw [World.size_alloc]
    rcases hk with hk | hk
    · have := hlt k hk; omega
    · omega
  have HC : Hid _ := take_x HX1 (h.sp.box (opO o)) ⟨o.f, o.c⟩ hf
  have HB : Hid _ := h
  have h1' : (o.k == 1) = false := by simp [hk]
  have h2' : (o.k == 2) = true := by simp [hk]
  have HK : Hid _ := hk
  clear h hX hlt HX1 hk
  unfold opV opO exV at *
  go_enter Try.func12, Try.ntmps12
  go_wp2_with fail
  refine Calls.mono HC.out ?_
  rintro r w2 ⟨e, L', rfl, ⟨hs2, k2⟩, h2⟩
  have rs2 : RS w2 q g N U := RS.kept (RS.on HB.out.rs ((Same.refl _ w).alloc (opO o))) k2 (fun h => h (.inl (.inr (.inl rfl)))) (fun h => h (.inl (.inr (.inr rfl))))
  have hop : w2.heap[w.heap.size]? = some (opO o) := (k2.block _ (by simp) (fun h => h (.inr rfl))).trans (heap_new _ _)
  have hopl := lt_of_heap hop
  obtain ⟨y0, y1, y2⟩ := op_cells hop
  have HRA : Hid _ := rtake_any rs2 hN ⟨o.f, o.c⟩
  have HS2 : Hid _ := hs2
  have K2 : Hid _ := k2
  have H2 : Hid _ := h2
  clear rs2 hop hs2 k2 h2
  go_wp2_with fail
  refine Calls.mono HRA.out ?_
  rintro r w3 ⟨e', V, rfl, rs3, k3, h3⟩
  have HFIN : Hid (∀ (ag : Ag V N L'), Both X w3 p q g N L' V ∧ Same (fun k => ¬ X k) w w3) := fun ag =>
    both_of (Y := XB X q g w.heap.size) (w1 := w.alloc (opO o)) (w2 := w2) HB.out (fun k hk => .inl hk) ((Same.refl _ _).alloc _) HS2.out K2.out rs3 k3 ag
  have HU : Hid (Has N ⟨o.f, o.c⟩ → _) := fun hh => allF_used HB.out.ag hh
  rcases H2.out with ⟨c1, rfl, rfl⟩ | ⟨c1, c2, rfl, rfl⟩ | ⟨c1, c2, rfl, c3⟩
  · obtain ⟨rfl, rfl⟩ : e' = 43 ∧ V = U := by
      rcases h3 with ⟨_, d1, d2⟩ | ⟨d0, _⟩ | ⟨d0, _⟩
      · exact ⟨d1, d2⟩
      · exact absurd d0 c1
      · exact absurd d0 c1
    have HC1 : Hid _ := c1
    clear h3 rs3 k3 c1
    go_wp2_with fail
    go_ret
    obtain ⟨q1, q2⟩ := HFIN.out HB.out.ag
    exact ⟨rfl, _, _, q1, q2, StpR.of2 HK.out (.inl ⟨rfl, fun h => HC1.out h.1⟩)⟩
  · obtain ⟨rfl, rfl⟩ : e' = 45 ∧ V = U := by
      rcases h3 with ⟨d0, _⟩ | ⟨_, _, d1, d2⟩ | ⟨_, d1, _⟩
      · exact absurd c1 d0
      · exact ⟨d1, d2⟩
      · exact absurd ((HU.out c1).2 d1) c2
    have HC2 : Hid _ := c2
    clear h3 rs3 k3 c1 c2
    go_wp2_with fail
    go_ret
    obtain ⟨q1, q2⟩ := HFIN.out HB.out.ag
    exact ⟨rfl, _, _, q1, q2, StpR.of2 HK.out (.inl ⟨rfl, fun h => HC2.out h.2⟩)⟩
  · obtain ⟨rfl, rfl⟩ : e' = 0 ∧ V = mk U o.f.toNat o.c.toNat true := by
      rcases h3 with ⟨d0, _⟩ | ⟨_, d1, _⟩ | ⟨_, _, d1, d2⟩
      · exact absurd c1 d0
      · exact absurd ((HU.out c1).1 c2) d1
      · exact ⟨d1, d2⟩
    have HC1 : Hid _ := c1
    have HC2 : Hid _ := c2
    have HC3 : Hid _ := c3
    clear h3 rs3 k3 c1 c2 c3
    go_wp2_with fail
    go_ret
    obtain ⟨n1, n2, n3⟩ := Has.nat (N := N) (x := ⟨o.f, o.c⟩) HC1.out
    have n1 : o.f = (o.f.toNat : Int) := n1
    have n2 : o.c = (o.c.toNat : Int) := n2
    obtain ⟨q1, q2⟩ := HFIN.out (ag_take HB.out.ag fun b => by rw [HC3.out b, ← n1, ← n2])
    exact ⟨rfl, _, _, q1, q2, StpR.of2 HK.out (.inr ⟨HC1.out, HC2.out, HC3.out⟩)⟩

set_option maxRecDepth 100000 in
set_option maxHeartbeats 3200000 in
theorem step_free {X : Nat → Prop} {w : World} {p q g N : Nat} {L : List Ex} {U : Nat → Bool} (h : Both X w p q g N L U) (hX : ∀ k, X k → k < w.heap.size) (o : O3) (hf : o.f ≤ 9223372036854775807) (hk : o.k = 3) :
    Calls Try.prog 12 #[.pointer (some ⟨p, 0, none⟩), .pointer (some ⟨q, 0, none⟩), opV o] w fun e w' => e = .returned (.bool true) ∧ Step X w p q g N L o w' := by
  have hN := h.sp.small
  have hlt := h.lt hX
  have HX1 : ∀ k, XB X q g w.heap.size k → k < (w.alloc (opO o)).heap.size := fun k hk => by
    rw [World.size_alloc]
    rcases hk with hk | hk
    · have := hlt k hk; omega
    · omega
  have HC : Hid _ := free_x HX1 (h.sp.box (opO o)) ⟨o.f, o.c⟩ hf
  have HB : Hid _ := h
  have h1' : (o.k == 1) = false := by simp [hk]
  have h2' : (o.k == 2) = false := by simp [hk]
  have h3' : (o.k == 3) = true := by simp [hk]
  have HK : Hid _ := hk
  clear h hX hlt HX1 hk
  unfold opV opO exV at *
  go_enter Try.func12, Try.ntmps12
  go_wp2_with fail
  refine Calls.mono HC.out ?_
  rintro r w2 ⟨e, L', rfl, ⟨hs2, k2⟩, h2⟩
  have rs2 : RS w2 q g N U := RS.kept (RS.on HB.out.rs ((Same.refl _ w).alloc (opO o))) k2 (fun h => h (.inl (.inr (.inl rfl)))) (fun h => h (.inl (.inr (.inr rfl))))
  have hop : w2.heap[w.heap.size]? = some (opO o) := (k2.block _ (by simp) (fun h => h (.inr rfl))).trans (heap_new _ _)
  have hopl := lt_of_heap hop
  obtain ⟨y0, y1, y2⟩ := op_cells hop
  have HRA : Hid _ := rfree_any rs2 hN ⟨o.f, o.c⟩
  have HS2 : Hid _ := hs2
  have K2 : Hid _ := k2
  have H2 : Hid _ := h2
  clear rs2 hop hs2 k2 h2
  go_wp2_with fail
  refine Calls.mono HRA.out ?_
  rintro r w3 ⟨e', V, rfl, rs3, k3, h3⟩
  have HFIN : Hid (∀ (ag : Ag V N L'), Both X w3 p q g N L' V ∧ Same (fun k => ¬ X k) w w3) := fun ag =>
    both_of (Y := XB X q g w.heap.size) (w1 := w.alloc (opO o)) (w2 := w2) HB.out (fun k hk => .inl hk) ((Same.refl _ _).alloc _) HS2.out K2.out rs3 k3 ag
  have HU : Hid (Has N ⟨o.f, o.c⟩ → _) := fun hh => noneF_used HB.out.ag hh
  rcases H2.out with ⟨c1, rfl, rfl⟩ | ⟨c1, c2, rfl, rfl⟩ | ⟨c1, c2, rfl, c3⟩
  · obtain ⟨rfl, rfl⟩ : e' = 43 ∧ V = U := by
      rcases h3 with ⟨_, d1, d2⟩ | ⟨d0, _⟩ | ⟨d0, _⟩
      · exact ⟨d1, d2⟩
      · exact absurd d0 c1
      · exact absurd d0 c1
    have HC1 : Hid _ := c1
    clear h3 rs3 k3 c1
    go_wp2_with fail
    go_ret
    obtain ⟨q1, q2⟩ := HFIN.out HB.out.ag
    exact ⟨rfl, _, _, q1, q2, StpR.of3 HK.out (.inl ⟨rfl, fun h => HC1.out h.1⟩)⟩
  · obtain ⟨rfl, rfl⟩ : e' = 44 ∧ V = U := by
      rcases h3 with ⟨d0, _⟩ | ⟨_, _, d1, d2⟩ | ⟨_, d1, _⟩
      · exact absurd c1 d0
      · exact ⟨d1, d2⟩
      · exact absurd ((HU.out c1).2 d1) c2
    have HC2 : Hid _ := c2
    clear h3 rs3 k3 c1 c2
    go_wp2_with fail
    go_ret
    obtain ⟨q1, q2⟩ := HFIN.out HB.out.ag
    exact ⟨rfl, _, _, q1, q2, StpR.of3 HK.out (.inl ⟨rfl, fun h => HC2.out h.2⟩)⟩
  · obtain ⟨rfl, rfl⟩ : e' = 0 ∧ V = mk U o.f.toNat o.c.toNat false := by
      rcases h3 with ⟨d0, _⟩ | ⟨_, d1, _⟩ | ⟨_, _, d1, d2⟩
      · exact absurd c1 d0
      · exact absurd ((HU.out c1).1 c2) d1
      · exact ⟨d1, d2⟩
    have HC1 : Hid _ := c1
    have HC2 : Hid _ := c2
    have HC3 : Hid _ := c3
    clear h3 rs3 k3 c1 c2 c3
    go_wp2_with fail
    go_ret
    obtain ⟨n1, n2, n3⟩ := Has.nat (N := N) (x := ⟨o.f, o.c⟩) HC1.out
    have n1 : o.f = (o.f.toNat : Int) := n1
    have n2 : o.c = (o.c.toNat : Int) := n2
    obtain ⟨q1, q2⟩ := HFIN.out (ag_free HB.out.ag fun b => by rw [HC3.out b, ← n1, ← n2])
    exact ⟨rfl, _, _, q1, q2, StpR.of3 HK.out (.inr ⟨HC1.out, HC2.out, HC3.out⟩)⟩

set_option maxRecDepth 100000 in
set_option maxHeartbeats 3200000 in
theorem step_tell {X : Nat → Prop} {w : World} {p q g N : Nat} {L : List Ex} {U : Nat → Bool} (h : Both X w p q g N L U) (o : O3) (hk : o.k = 4) :
    Calls Try.prog 12 #[.pointer (some ⟨p, 0, none⟩), .pointer (some ⟨q, 0, none⟩), opV o] w fun e w' => e = .returned (.bool true) ∧ Step X w p q g N L o w' := by
  have HC : Hid _ := tells_any (h.on ((Same.refl _ _).alloc (opO o)))
  have HB : Hid _ := h
  have h1' : (o.k == 1) = false := by simp [hk]
  have h2' : (o.k == 2) = false := by simp [hk]
  have h3' : (o.k == 3) = false := by simp [hk]
  have h4' : (o.k == 4) = true := by simp [hk]
  have HK : Hid _ := hk
  clear h hk
  unfold opV opO at *
  go_enter Try.func12, Try.ntmps12
  go_wp2_with fail
  refine Calls.mono HC.out ?_
  rintro r w2 ⟨rfl, k2⟩
  go_wp2_with fail
  go_ret
  have := HK.out
  exact ⟨rfl, Step.keep HB.out (((Same.refl _ _).alloc _).trans' k2) (by omega) (by omega) (by omega)⟩
set_option maxRecDepth 100000 in
set_option maxHeartbeats 3200000 in
theorem step_none {X : Nat → Prop} {w : World} {p q g N : Nat} {L : List Ex} {U : Nat → Bool} (h : Both X w p q g N L U) (o : O3) (k1 : o.k ≠ 1) (k2 : o.k ≠ 2) (k3 : o.k ≠ 3) (k4 : o.k ≠ 4) :
    Calls Try.prog 12 #[.pointer (some ⟨p, 0, none⟩), .pointer (some ⟨q, 0, none⟩), opV o] w fun e w' => e = .returned (.bool true) ∧ Step X w p q g N L o w' := by
  have HB : Hid _ := h
  have h1' : (o.k == 1) = false := by simpa using k1
  have h2' : (o.k == 2) = false := by simpa using k2
  have h3' : (o.k == 3) = false := by simpa using k3
  have h4' : (o.k == 4) = false := by simpa using k4
  have HK : Hid _ := And.intro k1 (And.intro k2 k3)
  clear h k1 k2 k3 k4
  unfold opV
  go_enter Try.func12, Try.ntmps12
  go_wp2_with fail
  go_ret
  obtain ⟨k1, k2, k3⟩ := HK.out
  exact ⟨rfl, Step.keep HB.out ((Same.refl _ _).alloc _) k1 k2 k3⟩
theorem step_any {X : Nat → Prop} {w : World} {p q g N : Nat} {L : List Ex} {U : Nat → Bool} (h : Both X w p q g N L U) (hX : ∀ k, X k → k < w.heap.size) (o : O3) (hf : o.f ≤ 9223372036854775807) :
    Calls Try.prog 12 #[.pointer (some ⟨p, 0, none⟩), .pointer (some ⟨q, 0, none⟩), opV o] w fun e w' => e = .returned (.bool true) ∧ Step X w p q g N L o w' := by
  by_cases k1 : o.k = 1
  · exact step_alloc h hX o k1
  · by_cases k2 : o.k = 2
    · exact step_take h hX o hf k2
    · by_cases k3 : o.k = 3
      · exact step_free h hX o hf k3
      · by_cases k4 : o.k = 4
        · exact step_tell h o k4
        · exact step_none h o k1 k2 k3 k4
end Go.Proofs.Ytfllilgadphlcaa
