/- What is proved: the law RowsDecodes answers true on every list of bytes of which the code and the document answer the same; the bounds that a machine's memory sets. -/
import Derived.Test.YtnbmokchdnkloaaQCmpL
import Derived.Test.YtnbmokchdnkloaaQRDecW
namespace Go.Proofs.Ytnbmokchdnkloaa
open Go.RowKit

set_option maxRecDepth 100000 in
set_option maxHeartbeats 800000 in
theorem decodes_of (w : World) (oa : Option Addr) (c : Nat) (l : List Int) (h : ArgB w oa c l) (r : RwM) (p z : Int)
    (h1 : ∀ (W : World) (v : Value) (base : Nat), OwnB base W v l → Calls Try.prog 17 #[v] W fun e w' => e = .returned (.tuple #[rowV r, .int .i64 p, .int .i64 z]) ∧ Kept W w')
    (h2 : ∀ W, Kept w W → Calls Try.prog 18 #[.slice oa l.length c] W fun e w' => e = .returned (.tuple #[rowV r, .int .i64 p, .int .i64 z]) ∧ Kept W w') : Calls Try.prog 4 #[.slice oa l.length c] w fun e w' => e = .returned (.bool true) ∧ Kept w w' := by
  have H0 : Hid (∀ W, _) := anchor9_any
  have HAP : Hid (∀ W, Kept w W → ∀ ty, _) := fun W (k : Kept w W) ty => app_lit (c := c) (h.data.kept k (fun _ _ h => h)) h.nil (by have := h.le; omega) ty
  have H1 : Hid _ := h1
  have H2 : Hid _ := h2
  obtain ⟨L, eL⟩ : ∃ L, L = l.length := ⟨_, rfl⟩
  rw [← eL] at HAP H2 ⊢
  obtain ⟨kind, time, seq, index, frm, til, body⟩ := r
  unfold rowV at *
  simp only at *
  clear h h1 h2 eL
  go_enter Try.func4, Try.ntmps4
  go_wp2_with fail
  refine Calls.mono (H0.out _) ?_
  rintro e w1 ⟨rfl, k1⟩
  have K1 : Hid _ := k1
  have HA1 : Hid _ := HAP.out w1 k1
  clear k1 HAP H0
  go_wp2_with (at_builtin; refine wpList_app rfl (.tmp 12) (.tmp 13) 28 28 rfl _ _ rfl rfl _ HA1.out ?_; intro v' w2 hR)
  have K2 : Hid (Kept w w2) := K1.out.trans' hR.2
  refine Calls.mono (H1.out _ _ _ hR.1) ?_
  rintro e w3 ⟨rfl, k3⟩
  have K3 : Hid _ := K2.out.trans' k3
  clear hR k3
  go_wp2_with fail
  refine Calls.mono (H2.out _ (K3.out.alloc _)) ?_
  rintro e w4 ⟨rfl, k4⟩
  have b4 := (k4.block _ (by rw [World.size_alloc]; exact Nat.lt_succ_self _) (fun h => h)).trans (heap_new w3 _)
  have K4 : Hid _ := (K3.out.alloc _).trans' k4
  have B4 : Hid _ := b4
  have hl4 := lt_of_heap b4
  clear k4 b4 H1 H2
  generalize w3.heap.size = g at B4 hl4 ⊢
  have HBX : Hid (∀ W', Kept (w4.alloc (.cells #[.int .i64 kind, .int .i64 time, .int .i64 seq, .int .i64 index, .int .i64 frm, .int .i64 til, .string body] 26 (0, 0))) W' → Kept (w4.alloc (.cells #[.int .i64 kind, .int .i64 time, .int .i64 seq, .int .i64 index, .int .i64 frm, .int .i64 til, .string body] 26 (0, 0))) W' ∧ (W'.cell? ⟨g, 0, none⟩ = some (.int .i64 kind) ∧ W'.cell? ⟨g, 1, none⟩ = some (.int .i64 time) ∧ W'.cell? ⟨g, 2, none⟩ = some (.int .i64 seq) ∧ W'.cell? ⟨g, 3, none⟩ = some (.int .i64 index) ∧ W'.cell? ⟨g, 4, none⟩ = some (.int .i64 frm) ∧ W'.cell? ⟨g, 5, none⟩ = some (.int .i64 til) ∧ W'.cell? ⟨g, 6, none⟩ = some (.string body)) ∧ (W'.cell? ⟨w4.heap.size, 0, none⟩ = some (.int .i64 kind) ∧ W'.cell? ⟨w4.heap.size, 1, none⟩ = some (.int .i64 time) ∧ W'.cell? ⟨w4.heap.size, 2, none⟩ = some (.int .i64 seq) ∧ W'.cell? ⟨w4.heap.size, 3, none⟩ = some (.int .i64 index) ∧ W'.cell? ⟨w4.heap.size, 4, none⟩ = some (.int .i64 frm) ∧ W'.cell? ⟨w4.heap.size, 5, none⟩ = some (.int .i64 til) ∧ W'.cell? ⟨w4.heap.size, 6, none⟩ = some (.string body))) := fun W' k =>
    ⟨k, (row_obj ((k.block _ (by rw [World.size_alloc]; omega) (fun e => e)).trans ((heap_old _ _ hl4).trans B4.out))).1, (row_obj ((k.block _ (by rw [World.size_alloc]; exact Nat.lt_succ_self _) (fun e => e)).trans (heap_new w4 _))).1⟩
  have HPK : Hid (∀ k t s i f u y W, Kept (w4.alloc (.cells #[.int .i64 kind, .int .i64 time, .int .i64 seq, .int .i64 index, .int .i64 frm, .int .i64 til, .string body] 26 (0, 0))) W → Calls _ _ _ _ fun e w' => _ ∧ Kept (w4.alloc (.cells #[.int .i64 kind, .int .i64 time, .int .i64 seq, .int .i64 index, .int .i64 frm, .int .i64 til, .string body] 26 (0, 0))) w') := fun k t s i f u y W (kw : Kept (w4.alloc (.cells #[.int .i64 kind, .int .i64 time, .int .i64 seq, .int .i64 index, .int .i64 frm, .int .i64 til, .string body] 26 (0, 0))) W) => Calls.mono (plain_f k t s i f u y W) (fun e w' hh => ⟨hh.1, kw.trans' hh.2⟩)
  have K5 : Hid _ := K4.out.alloc (.cells #[.int .i64 kind, .int .i64 time, .int .i64 seq, .int .i64 index, .int .i64 frm, .int .i64 til, .string body] 26 (0, 0))
  obtain ⟨-, ⟨c0, c1, c2, c3, c4, c5, c6⟩, ⟨e0, e1, e2, e3, e4, e5, e6⟩⟩ := HBX.out _ (Same.refl _ _)
  go_wp2_with fail
  go_region_held3 (fun w' => Kept (w4.alloc (.cells #[.int .i64 kind, .int .i64 time, .int .i64 seq, .int .i64 index, .int .i64 frm, .int .i64 til, .string body] 26 (0, 0))) w' ∧ (w'.cell? ⟨g, 0, none⟩ = some (.int .i64 kind) ∧ w'.cell? ⟨g, 1, none⟩ = some (.int .i64 time) ∧ w'.cell? ⟨g, 2, none⟩ = some (.int .i64 seq) ∧ w'.cell? ⟨g, 3, none⟩ = some (.int .i64 index) ∧ w'.cell? ⟨g, 4, none⟩ = some (.int .i64 frm) ∧ w'.cell? ⟨g, 5, none⟩ = some (.int .i64 til) ∧ w'.cell? ⟨g, 6, none⟩ = some (.string body)) ∧ (w'.cell? ⟨w4.heap.size, 0, none⟩ = some (.int .i64 kind) ∧ w'.cell? ⟨w4.heap.size, 1, none⟩ = some (.int .i64 time) ∧ w'.cell? ⟨w4.heap.size, 2, none⟩ = some (.int .i64 seq) ∧ w'.cell? ⟨w4.heap.size, 3, none⟩ = some (.int .i64 index) ∧ w'.cell? ⟨w4.heap.size, 4, none⟩ = some (.int .i64 frm) ∧ w'.cell? ⟨w4.heap.size, 5, none⟩ = some (.int .i64 til) ∧ w'.cell? ⟨w4.heap.size, 6, none⟩ = some (.string body)))
    (exact HBX.out _ (by (repeat (first | assumption | exact Same.refl _ _ | apply Same.alloc | apply Same.drew | apply Same.drewN)); done))
    ((go_at_call 11; refine Calls.mono (HPK.out _ _ _ _ _ _ _ _ (by (repeat (first | assumption | exact Same.refl _ _ | apply Same.alloc | apply Same.drew | apply Same.drewN)); done)) ?_; rintro r wq ⟨rfl, kx⟩))
  all_goals
    go_wp2_with fail
    go_ret
    exact ⟨rfl, K5.out.trans' (by (repeat (first | assumption | exact Same.refl _ _ | apply Same.alloc | apply Same.drew | apply Same.drewN)); done)⟩
theorem decodes_bad (w : World) (oa : Option Addr) (c : Nat) (l : List Int) (h : ArgB w oa c l) {p : Nat} {z : Int} (he : dec9 l = .error (p, z)) : Calls Try.prog 4 #[.slice oa l.length c] w fun e w' => e = .returned (.bool true) ∧ Kept w w' := by
  refine decodes_of w oa c l h r0 p z (fun W v base o => ?_) (fun W k => ?_)
  · obtain ⟨a1, c1, rfl, d1, hc1, hn1, -, -⟩ := OwnB.bytes o
    exact decode9_bad d1 hn1 (by have := h.le; omega) hc1 h.byts he
  · refine Calls.mono (refDec9_bad W oa c l (h.on k) he) ?_
    rintro e w' ⟨k', m⟩
    rw [he] at m
    exact ⟨m, k'⟩
end Go.Proofs.Ytnbmokchdnkloaa
