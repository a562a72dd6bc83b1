/- What is proved: refresh works a node out anew, by the two that it names; lift turns a node; the forest lies in memory, no height is near the greatest number. -/
import Derived.Test.YtaiaahcblohknaaYSide
import Derived.Deep.RegionLaw
import Derived.Deep.DeepCutAuto
import Derived.BigRegion
namespace Go.Proofs.Ytaiaahcblohknaa
open Go.RowKit

abbrev ndO (n : Nd) : Obj := .cells #[.int .i64 n.s.f, .int .i64 n.s.t, .int .i64 n.s.i, .int .i64 n.l, .int .i64 n.r, .int .i64 n.h, .int .i64 n.fi, .int .i64 n.la] 74 (0, 0)
structure NdBox (w : World) (g : Nat) (x : Nd) : Prop where
  c0 : w.cell? ⟨g, 0, none⟩ = some (.int .i64 x.s.f)
  c1 : w.cell? ⟨g, 1, none⟩ = some (.int .i64 x.s.t)
  c2 : w.cell? ⟨g, 2, none⟩ = some (.int .i64 x.s.i)
  c3 : w.cell? ⟨g, 3, none⟩ = some (.int .i64 x.l)
  c4 : w.cell? ⟨g, 4, none⟩ = some (.int .i64 x.r)
  c5 : w.cell? ⟨g, 5, none⟩ = some (.int .i64 x.h)
  c6 : w.cell? ⟨g, 6, none⟩ = some (.int .i64 x.fi)
  c7 : w.cell? ⟨g, 7, none⟩ = some (.int .i64 x.la)
  fz : ∀ o, w.frozen? ⟨g, o, none⟩ = false
theorem nd_box {w : World} {g : Nat} {x : Nd} (h : w.heap[g]? = some (ndO x)) : NdBox w g x :=
  ⟨(cell_of h 0).trans rfl, (cell_of h 1).trans rfl, (cell_of h 2).trans rfl, (cell_of h 3).trans rfl, (cell_of h 4).trans rfl, (cell_of h 5).trans rfl, (cell_of h 6).trans rfl, (cell_of h 7).trans rfl, fun o => frozen_of h o⟩
theorem two_boxes (W : World) (a b : Obj) : ((W.alloc a).alloc b).heap[W.heap.size]? = some a ∧ ((W.alloc a).alloc b).heap[W.heap.size + 1]? = some b ∧ Kept W ((W.alloc a).alloc b) := by
  refine ⟨(heap_old _ b (by rw [World.size_alloc]; omega)).trans (heap_new W a), ?_, ((Same.refl _ W).alloc a).alloc b⟩
  have := heap_new (W.alloc a) b
  rwa [World.size_alloc] at this
theorem Ar.drew {w : World} {fb nb cap fr : Nat} {mv : Value} {c e : Int} {N : List Nd} (h : Ar w fb nb cap fr mv c e N) : Ar w.drew fb nb cap fr mv c e N := h.on (Same.refl _ w).drew
theorem run_min3 (w : World) (ts : Array TypeId) (t : TypeId) (x y z : Int) : (Builtin.min_ ts t #[.int .i64 x, .int .i64 y, .int .i64 z]).run Try.prog w = .ok (.int .i64 (min x (min y z))) w := by
  have e : (if z < (if y < x then y else x) then z else (if y < x then y else x)) = min x (min y z) := by split <;> split at * <;> omega
  simp [Builtin.min_, Builtin.min2, e]
theorem run_max3 (w : World) (ts : Array TypeId) (t : TypeId) (x y z : Int) : (Builtin.max_ ts t #[.int .i64 x, .int .i64 y, .int .i64 z]).run Try.prog w = .ok (.int .i64 (max x (max y z))) w := by
  have e : (if z > (if y > x then y else x) then z else (if y > x then y else x)) = max x (max y z) := by split <;> split at * <;> omega
  simp [Builtin.max_, Builtin.max2, e]
set_option maxRecDepth 100000 in
set_option maxHeartbeats 1600000 in
theorem refresh14 {w : World} {fb nb cap fr : Nat} {mv : Value} {c e : Int} {N : List Nd} (h : Ar w fb nb cap fr mv c e N) (p : Nat) (n x y : Nd) (hp : N[p]? = some n) (hx : N[n.l]? = some x) (hy : N[n.r]? = some y) (hh : x.h < 4611686018427387904 ∧ y.h < 4611686018427387904) :
    Calls Try.prog 47 #[.pointer (some ⟨fb, 0, none⟩), .int .i64 p] w fun r w' => r = .returned (.tuple #[]) ∧ Ar w' fb nb cap fr mv c e (N.set p (rf n x y)) ∧ Same (fun k => k = nb) w w' := by
  obtain ⟨⟨f0, -⟩, hb, hnb⟩ := h.cells
  obtain ⟨⟨n0, n1, n2, n3, n4, n5, n6, n7⟩, lp⟩ := h.node hp
  have HA : Hid _ := h
  have HP : Hid _ := hp
  have HXX : Hid _ := hx
  have HYY : Hid _ := hy
  have l1 : (p : Int) < (N.length : Int) := by omega
  have l2 : (n.l : Int) < (N.length : Int) := by have := (h.node hx).2; omega
  have l3 : (n.r : Int) < (N.length : Int) := by have := (h.node hy).2; omega
  have K0 : Hid _ := (Same.refl (fun _ => False) w).alloc (ndO n)
  have HG : Hid _ := heap_new w (ndO n)
  clear h hp hx hy lp
  go_enter Try.func47, Try.ntmps47
  go_upto_region 1 with fail
  generalize hW : w.alloc (ndO n) = W at K0 HG ⊢
  have HSZ : Hid (W.heap.size = w.heap.size + 1) := by show W.heap.size = _; rw [← hW]; exact World.size_alloc _ _
  clear hW n0 n1 n2 n3 n4 n5 n6 n7 f0
  generalize hg : w.heap.size = g at HG HSZ hb hnb ⊢
  have HGG : Hid _ := hg
  clear hg
  have hA := HA.out.on K0.out
  have HA2 : Hid _ := hA
  obtain ⟨⟨f0, -⟩, hb', hnb'⟩ := hA.cells
  obtain ⟨⟨x0, x1, x2, x3, x4, x5, x6, x7⟩, -⟩ := hA.node HXX.out
  obtain ⟨⟨y0, y1, y2, y3, y4, y5, y6, y7⟩, -⟩ := hA.node HYY.out
  obtain ⟨b0, b1, b2, b3, b4, b5, b6, b7, bf⟩ := nd_box HG.out
  have hgl : g < W.heap.size := by rw [show W.heap.size = g + 1 from HSZ.out]; omega
  clear hA
  have h5 : x.h < 4611686018427387904 := hh.1
  have h6 : y.h < 4611686018427387904 := hh.2
  clear hh
  go_cut [5, 6] (fun s5 s6 wx => ∃ gx gy, s5 = .pointer (some ⟨gx, 0, none⟩) ∧ s6 = .pointer (some ⟨gy, 0, none⟩) ∧ wx.heap[gx]? = some (ndO x) ∧ wx.heap[gy]? = some (ndO y) ∧ W.heap.size ≤ gx ∧ W.heap.size ≤ gy ∧ Kept W wx)
  case first =>
    go_region
    · go_wp2_with fail
      go_meet
      exact ⟨_, _, rfl, rfl, (two_boxes W (ndO x) (ndO y)).1, (two_boxes W (ndO x) (ndO y)).2.1, Nat.le_refl _, Nat.le_succ _, Same.drew (two_boxes W (ndO x) (ndO y)).2.2⟩
    · go_wp2_with fail
      go_meet
      exact ⟨_, _, rfl, rfl, (two_boxes W (ndO y) (ndO x)).2.1, (two_boxes W (ndO y) (ndO x)).1, Nat.le_succ _, Nat.le_refl _, Same.drew (two_boxes W (ndO y) (ndO x)).2.2⟩
  case rest =>
    obtain ⟨gx, gy, rfl, rfl, ox, oy, hgx, hgy, kx⟩ := hcut
    rename World => Z
    have hmin : ∀ (w : World) ts t x y z, (Builtin.min_ ts t #[.int .i64 x, .int .i64 y, .int .i64 z]).run Try.prog w = .ok (.int .i64 (min x (min y z))) w := run_min3
    have hmax : ∀ (w : World) ts t x y z, (Builtin.max_ ts t #[.int .i64 x, .int .i64 y, .int .i64 z]).run Try.prog w = .ok (.int .i64 (max x (max y z))) w := run_max3
    have hmax2 : max (x.h : Int) (y.h : Int) = ((max x.h y.h : Nat) : Int) := by omega
    obtain ⟨M, hM⟩ : ∃ M, max x.h y.h = M := ⟨_, rfl⟩
    have hM2 : M < 4611686018427387904 := by omega
    rw [hM] at hmax2
    have HM : Hid _ := hM
    clear hM
    obtain ⟨d0, d1, d2, d3, d4, d5, d6, d7, df⟩ := nd_box ox
    obtain ⟨e0, e1, e2, e3, e4, e5, e6, e7, ef⟩ := nd_box oy
    have og : Z.heap[g]? = some (ndO n) := (kx.block g hgl (fun e => e)).trans HG.out
    have OG : Hid _ := og
    obtain ⟨a0, a1, a2, a3, a4, a5, a6, a7, af⟩ := nd_box og
    have KX : Hid _ := kx
    have HX2 : Hid _ := hgx
    have ng1 : ¬ g = gx := by omega
    have ng2 : ¬ g = gy := by omega
    have ng3 : ¬ gx = g := by omega
    have ng4 : ¬ gy = g := by omega
    have hgz : g < Z.heap.size := Nat.lt_of_lt_of_le hgl kx.size
    clear ox oy og kx f0 x0 x1 x2 x3 x4 x5 x6 x7 y0 y1 y2 y3 y4 y5 y6 y7 b0 b1 b2 b3 b4 b5 b6 b7 bf
    go_upto_region 5 with fail
    have oz : (((Z.setCell ⟨g, 5, none⟩ (.int .i64 (1 + (M : Int)))).setCell ⟨g, 6, none⟩ (.int .i64 (min n.s.t (min x.fi y.fi)))).setCell ⟨g, 7, none⟩ (.int .i64 (max n.s.t (max x.la y.la)))).heap[g]? = some (ndO (rf n x y)) := by
      have q := setCell_at (setCell_at (setCell_at OG.out 5 (.int .i64 (1 + (M : Int)))) 6 (.int .i64 (min n.s.t (min x.fi y.fi)))) 7 (.int .i64 (max n.s.t (max x.la y.la)))
      simp only [List.setIfInBounds_toArray, List.set_cons_succ, List.set_cons_zero] at q
      rw [q]
      unfold rf
      rw [show max x.h y.h = M from HM.out]
      simp [ndO, Int.add_comm]
    have sz : Same (fun _ => False) w (((Z.setCell ⟨g, 5, none⟩ (.int .i64 (1 + (M : Int)))).setCell ⟨g, 6, none⟩ (.int .i64 (min n.s.t (min x.fi y.fi)))).setCell ⟨g, 7, none⟩ (.int .i64 (max n.s.t (max x.la y.la)))) := by
      have hg9 : w.heap.size ≤ g := by rw [show w.heap.size = g from HGG.out]; exact Nat.le_refl _
      exact Same.setCell (Same.setCell (Same.setCell (Same.trans' K0.out KX.out) ⟨g, 5, none⟩ (.inl hg9) _) ⟨g, 6, none⟩ (.inl hg9) _) ⟨g, 7, none⟩ (.inl hg9) _
    clear a0 a1 a2 a3 a4 a5 a6 a7 af d0 d1 d2 d3 d4 d5 d6 d7 df e0 e1 e2 e3 e4 e5 e6 e7 ef
    generalize (((Z.setCell ⟨g, 5, none⟩ (.int .i64 (1 + (M : Int)))).setCell ⟨g, 6, none⟩ (.int .i64 (min n.s.t (min x.fi y.fi)))).setCell ⟨g, 7, none⟩ (.int .i64 (max n.s.t (max x.la y.la)))) = Y at oz sz ⊢
    have hA := HA.out.on sz
    have HAY : Hid _ := hA
    have SZ : Hid _ := sz
    generalize hm9 : rf n x y = m at oz ⊢
    obtain ⟨⟨q0, -⟩, -⟩ := hA.cells
    obtain ⟨⟨r0, r1, r2, r3, r4, r5, r6, r7⟩, -⟩ := hA.node HP.out
    obtain ⟨a0, a1, a2, a3, a4, a5, a6, a7, af⟩ := nd_box oz
    have zf := fun o => hA.nodes.frozen o
    have nbg : ¬ nb = g := by omega
    have nbg2 : ¬ g = nb := by omega
    clear hA oz sz hmin hmax hmax2
    go_region
    all_goals
      go_end0
      exact ⟨rfl, by rw [hm9]; exact Ar.drew (Ar.put8 HAY.out HP.out), Same.drew (same8 (S := fun k => k = nb) (Kept.to SZ.out _) (.inr rfl) _ _ _ _ _ _ _ _ _ _ _ _ _ _ _ _)⟩
end Go.Proofs.Ytaiaahcblohknaa
