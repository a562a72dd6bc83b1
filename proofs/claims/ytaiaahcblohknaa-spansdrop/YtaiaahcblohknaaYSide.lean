/- What is proved: on which side of a node a span belongs, by the list of nodes; the forest lies in memory. -/
import Derived.Test.YtaiaahcblohknaaYCmp
namespace Go.Proofs.Ytaiaahcblohknaa
open Go.RowKit

theorem sp_cells {w : World} {b : Nat} {x : Sp} (h : w.heap[b]? = some (spO x)) : w.cell? ⟨b, 0, none⟩ = some (.int .i64 x.f) ∧ w.cell? ⟨b, 1, none⟩ = some (.int .i64 x.t) ∧ w.cell? ⟨b, 2, none⟩ = some (.int .i64 x.i) :=
  ⟨(cell_of h 0).trans rfl, (cell_of h 1).trans rfl, (cell_of h 2).trans rfl⟩
theorem NdAt.span {w : World} {nb i : Nat} {x : Nd} (h : NdAt w nb i x) : w.cell? ⟨nb, i * 8, none⟩ = some (.int .i64 x.s.f) ∧ w.cell? ⟨nb, i * 8 + 1, none⟩ = some (.int .i64 x.s.t) ∧ w.cell? ⟨nb, i * 8 + 2, none⟩ = some (.int .i64 x.s.i) := ⟨h.c0, h.c1, h.c2⟩
/-- The side, as a number. -/
def sd (b : Bool) : Int := if b = true then 0 else 1
structure SdA (W w3 : World) (fb nb cap h p n : Nat) (x y : Sp) : Prop where
  k : Kept W w3
  x0 : w3.cell? ⟨h, 0, none⟩ = some (.int .i64 x.f)
  x1 : w3.cell? ⟨h, 1, none⟩ = some (.int .i64 x.t)
  x2 : w3.cell? ⟨h, 2, none⟩ = some (.int .i64 x.i)
  f0 : w3.cell? ⟨fb, 0, none⟩ = some (.slice (some ⟨nb, 0, none⟩) n cap)
  y0 : w3.cell? ⟨nb, p * 8, none⟩ = some (.int .i64 y.f)
  y1 : w3.cell? ⟨nb, p * 8 + 1, none⟩ = some (.int .i64 y.t)
  y2 : w3.cell? ⟨nb, p * 8 + 2, none⟩ = some (.int .i64 y.i)
set_option maxRecDepth 100000 in
set_option maxHeartbeats 1600000 in
theorem side14 {w : World} {fb nb cap fr : Nat} {mv : Value} {c e : Int} {N : List Nd} (h : Ar w fb nb cap fr mv c e N) (p : Nat) (n : Nd) (hp : N[p]? = some n) (x : Sp) :
    Calls Try.prog 39 #[.pointer (some ⟨fb, 0, none⟩), .int .i64 p, spV x] w fun r w' => r = .returned (.int .i64 (sd (sl x n.s))) ∧ Kept w w' := by
  have HC : Hid (∀ W, _) := fun W => compare14 x n.s W
  have HL : Hid _ := cmpS_lt x n.s
  have hlt : (p : Int) < (N.length : Int) := by have := (h.node hp).2; omega
  have K0 : Hid _ := (Same.refl (fun _ => False) w).alloc (spO x)
  have HX : Hid _ := heap_new w (spO x)
  have HW : Hid (∀ w3, Kept (w.alloc (spO x)) w3 → SdA (w.alloc (spO x)) w3 fb nb cap w.heap.size p N.length x n.s) := fun w3 k3 => by
    obtain ⟨a0, a1, a2⟩ := sp_cells ((k3.block _ (lt_of_heap HX.out) (fun e => e)).trans HX.out)
    have hh := (h.on K0.out).on k3
    obtain ⟨⟨f0, -⟩, -⟩ := hh.cells
    obtain ⟨b0, b1, b2⟩ := (hh.node hp).1.span
    exact ⟨k3, a0, a1, a2, f0, b0, b1, b2⟩
  clear h hp
  generalize sl x n.s = b at HL ⊢
  obtain ⟨xf, xt, xi⟩ := x
  generalize n.s = y at *
  clear n
  obtain ⟨yf, yt, yi⟩ := y
  generalize cmpS _ _ = cc at HC HL
  generalize hN : N.length = len at *
  clear hN N
  unfold spV at *
  simp only at HW HX K0 ⊢
  go_enter Try.func39, Try.ntmps39
  go_upto_region 1 with fail
  generalize w.alloc (spO ⟨xf, xt, xi⟩) = W at HX HW K0 ⊢
  generalize w.heap.size = g at HX HW ⊢
  obtain ⟨-, x0, x1, x2, f0, y0, y1, y2⟩ := HW.out W (Same.refl _ W)
  have HZ : Hid (∀ w3, Kept W w3 → _) := fun w3 k3 => by
    obtain ⟨q0, q1, q2, q3, q4, q5, q6, q7⟩ := HW.out w3 k3
    exact And.intro q0 (And.intro q1 (And.intro q2 (And.intro q3 (And.intro q4 (And.intro q5 (And.intro q6 q7))))))
  have HC2 : Hid (∀ W1, Kept W W1 → Calls Try.prog 45 #[.agg #[.int .i64 xf, .int .i64 xt, .int .i64 xi], .agg #[.int .i64 yf, .int .i64 yt, .int .i64 yi]] W1 fun e w' => e = .returned (.int .i64 cc) ∧ Kept W w') := fun W1 k => (HC.out W1).mono fun e w' h => ⟨h.1, Same.trans' k h.2⟩
  clear HW HC
  go_region_held3 (fun w' => Kept W w' ∧ w'.cell? ⟨g, 0, none⟩ = some (.int .i64 xf) ∧ w'.cell? ⟨g, 1, none⟩ = some (.int .i64 xt) ∧ w'.cell? ⟨g, 2, none⟩ = some (.int .i64 xi) ∧ w'.cell? ⟨fb, 0, none⟩ = some (.slice (some ⟨nb, 0, none⟩) len cap) ∧ w'.cell? ⟨nb, p * 8, none⟩ = some (.int .i64 yf) ∧ w'.cell? ⟨nb, p * 8 + 1, none⟩ = some (.int .i64 yt) ∧ w'.cell? ⟨nb, p * 8 + 2, none⟩ = some (.int .i64 yi))
    (exact HZ.out _ (by (repeat (first | assumption | exact Same.refl _ _ | apply Same.alloc | apply Same.drew | apply Same.drewN)); done))
    ((go_at_call 45; refine Calls.mono (HC2.out _ (by (repeat (first | assumption | exact Same.refl _ _ | apply Same.alloc | apply Same.drew | apply Same.drewN)); done)) ?_; rintro r w1 ⟨rfl, k1⟩))
  all_goals (cases b)
  all_goals (have hl := HL.out; simp at hl)
  all_goals (go_wp2_with fail)
  all_goals (go_ret; exact ⟨rfl, Same.trans' K0.out (by (repeat (first | assumption | exact Same.refl _ _ | apply Same.alloc | apply Same.drew | apply Same.drewN)); done)⟩)
end Go.Proofs.Ytaiaahcblohknaa
