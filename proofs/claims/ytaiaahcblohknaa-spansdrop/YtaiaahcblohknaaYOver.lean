/- What is proved: Overlap gives the spans of a key that overlap, in their order, in a list of its own; the iterator that it and First go through; the forest lies in memory. -/
import Derived.Test.YtaiaahcblohknaaYWalk
import Derived.Test.YtaiaahcblohknaaYHas
import Derived.RangeFuncBox
import Derived.StillTailTactics
namespace Go.Proofs.Ytaiaahcblohknaa
open Go.RowKit Go.Shelf

attribute [local go_sem] Oper.semAt_some

/-- The spans of a key that overlap. -/
abbrev ovK (A : List Ks) (k : ByteArray) (fm tl : Int) : List Sp := (kf A k).filter (ovl fm tl)
/-- The boxes that the iterator holds. -/
structure Bx4 (w : World) (g fb : Nat) (k : ByteArray) (fm tl : Int) : Prop where
  c0 : w.cell? ⟨g, 0, none⟩ = some (.pointer (some ⟨fb, 0, none⟩))
  c1 : w.cell? ⟨g + 1, 0, none⟩ = some (.string k)
  c2 : w.cell? ⟨g + 2, 0, none⟩ = some (.int .i64 fm)
  c3 : w.cell? ⟨g + 3, 0, none⟩ = some (.int .i64 tl)
  lt : g + 3 < w.heap.size
theorem Bx4.on {w w' : World} {g fb : Nat} {k : ByteArray} {fm tl : Int} (h : Bx4 w g fb k fm tl) (kk : Kept w w') : Bx4 w' g fb k fm tl :=
  ⟨(kk.cell (p := ⟨g, 0, none⟩) (by have := h.lt; show g < _; omega) (fun e => e)).trans h.c0, (kk.cell (p := ⟨g + 1, 0, none⟩) (by have := h.lt; show g + 1 < _; omega) (fun e => e)).trans h.c1, (kk.cell (p := ⟨g + 2, 0, none⟩) (by have := h.lt; show g + 2 < _; omega) (fun e => e)).trans h.c2, (kk.cell (p := ⟨g + 3, 0, none⟩) h.lt (fun e => e)).trans h.c3, Nat.lt_of_lt_of_le h.lt kk.size⟩
abbrev lb4 (g : Nat) : Array Value := #[.pointer (some ⟨g, 0, none⟩), .pointer (some ⟨g + 1, 0, none⟩), .pointer (some ⟨g + 2, 0, none⟩), .pointer (some ⟨g + 3, 0, none⟩)]
set_option maxRecDepth 100000 in
set_option maxHeartbeats 1600000 in
theorem overlapping14 (w : World) (fb : Nat) (k : ByteArray) (fm tl : Int) : Calls Try.prog 26 #[.pointer (some ⟨fb, 0, none⟩), .string k, .int .i64 fm, .int .i64 tl] w fun r w' => r = .returned (.func (.func 37) #[] (lb4 w.heap.size)) ∧ Bx4 w' w.heap.size fb k fm tl ∧ Kept w w' := by
  go_enter Try.func26, Try.ntmps26
  go_wp2_with fail
  go_ret
  have k0 : Kept w ((((w.alloc (.cells #[.pointer (some ⟨fb, 0, none⟩)] 24 (0, 0))).alloc (.cells #[.string k] 9 (0, 0))).alloc (.cells #[.int .i64 fm] 3 (0, 0))).alloc (.cells #[.int .i64 tl] 3 (0, 0))) := ((((Same.refl _ w).alloc _).alloc _).alloc _).alloc _
  have q1 := two_boxes w (.cells #[.pointer (some ⟨fb, 0, none⟩)] 24 (0, 0)) (.cells #[.string k] 9 (0, 0))
  have q2 := two_boxes ((w.alloc (.cells #[.pointer (some ⟨fb, 0, none⟩)] 24 (0, 0))).alloc (.cells #[.string k] 9 (0, 0))) (.cells #[.int .i64 fm] 3 (0, 0)) (.cells #[.int .i64 tl] 3 (0, 0))
  have e2 : ((w.alloc (.cells #[.pointer (some ⟨fb, 0, none⟩)] 24 (0, 0))).alloc (.cells #[.string k] 9 (0, 0))).heap.size = w.heap.size + 2 := by rw [World.size_alloc, World.size_alloc]
  rw [e2] at q2
  exact ⟨rfl, ⟨(cell_of ((q2.2.2.block _ (by rw [e2]; omega) (fun e => e)).trans q1.1) 0).trans rfl, (cell_of ((q2.2.2.block _ (by rw [e2]; omega) (fun e => e)).trans q1.2.1) 0).trans rfl, (cell_of q2.1 0).trans rfl, (cell_of q2.2.1 0).trans rfl, lt_of_heap q2.2.1⟩, k0⟩
theorem abides_alloc {J : List Sp → World → Prop} {B : Nat} (h : AbidesFrom B J) {pre : List Sp} {W : World} (o : Obj) (hj : J pre W) : J pre (W.alloc o) := h pre W _ none hj (World.grownBy_alloc W o none) (fun r e => by cases e)
theorem grownBy_drewN (W : World) (n : Nat) : W.grownBy (W.drewN n) none := ⟨rfl, rfl, rfl, Nat.le_refl _, fun _ _ _ => rfl⟩
set_option maxRecDepth 100000 in
set_option maxHeartbeats 3200000 in
theorem over_stops {F : Nat → Prop} {w : World} {fb : Nat} {A : List Ks} {bd : Nat} (h : Fo F w fb A bd) (k : ByteArray) (hk : k.size ≤ maxLen) (fm tl : Int) {g : Nat} (hb : Bx4 w g fb k fm tl) (n₀ : Nat) (hn : n₀ ≤ w.heap.size) (hF : ∀ b, F b → b < n₀) (n : Nat) :
    SeqStopsK Fence.wide n Try.prog 37 (lb4 g) (fun x : Sp => #[spV x]) (KpN n₀) (fun ys => ys = ovK A k fm tl) (fun pre => pre <+: ovK A k fm tl) (ovK A k fm tl).length w := fun l J Jx W hW hJ _ hY hJ0 => by
  have hkw : Kept w W := Same.of_below hW _
  obtain ⟨nb, cap, fr, mb, e, N, D, R, FL, h1, h2, -⟩ := h
  have hm := h1.on hkw
  have HWK : Hid (∀ W1, Kept W W1 → J [] W1 → Calls Try.prog 38 #[.pointer (some ⟨fb, 0, none⟩), .int .i64 ((R k.toList).root : Nat), .int .i64 fm, .int .i64 tl, .func (.yield l) #[] #[]] W1 (WalkP n₀ J Jx [] (ovK A k fm tl) W1)) := fun W1 k1 hj => by
    have h9 := walk14 fb nb cap fr _ _ _ N fm tl l n₀ (ovK A k fm tl).length J Jx (fun pre W o hj => abides_alloc hJ o hj) (hF _ h1.ff) (hF _ h1.fn) h2.z (fun m pre x W hj hl => yield_anyDepth rfl m (hY pre x W hj hl)) (R k.toList) 0 [] W1 (hm.on k1).ar (h2.lay _) (by rw [h2.lst]; exact h2.srt k) hj (Nat.le_trans (Nat.le_trans hn hkw.size) k1.size) (by rw [h2.lst]; simp)
    rw [h2.lst] at h9
    exact callsIn_wide.1 h9
  have HBX : Hid (∀ W1, Kept W W1 → Kept W W1 ∧ W1.cell? ⟨g, 0, none⟩ = some (.pointer (some ⟨fb, 0, none⟩)) ∧ W1.cell? ⟨g + 1, 0, none⟩ = some (.string k) ∧ W1.cell? ⟨g + 2, 0, none⟩ = some (.int .i64 fm) ∧ W1.cell? ⟨g + 3, 0, none⟩ = some (.int .i64 tl) ∧ W1.cell? ⟨fb, 2, none⟩ = some (.map (some mb))) := fun W1 k1 => by
    have h9 := (hb.on hkw).on k1
    exact ⟨k1, h9.c0, h9.c1, h9.c2, h9.c3, (hm.on k1).ar.cells.1.2.2.1⟩
  have hfd : ∀ W1, Kept W W1 → (Instr.lookup 53 (.map (some mb)) (.string k) false).run Try.prog W1 = .ok (.int .i64 ((R k.toList).root : Nat)) W1 := fun W1 k1 => (hm.on k1).find hk
  have hf1 := hfd W (Same.refl _ W)
  have hf2 := hfd W.drew (Same.refl _ W).drew
  have HJ0 : Hid (∀ m, J [] (W.drewN m)) := fun m => hJ [] W _ none hJ0 (grownBy_drewN W m) (fun r e => by cases e)
  have HJ1 : Hid (J [] W.drew) := HJ0.out 1
  obtain ⟨-, x0, x1, x2, x3, x4⟩ := HBX.out W (Same.refl _ W)
  have hlb := hm.ar.cells.2.1
  refine callsIn_wide.2 ?_
  show Calls Try.prog 37 #[.func (.yield l) #[] #[], .pointer (some ⟨g, 0, none⟩), .pointer (some ⟨g + 1, 0, none⟩), .pointer (some ⟨g + 2, 0, none⟩), .pointer (some ⟨g + 3, 0, none⟩)] W _
  have HFIN : Hid (∀ W1 r W', WalkP n₀ J Jx [] (ovK A k fm tl) W1 r W' → (∃ b, r = .returned (.bool b)) ∧ ((∃ xs, xs = ovK A k fm tl ∧ J xs W') ∨ (∃ pre, pre <+: ovK A k fm tl ∧ Jx pre W'))) := fun W1 r W' h9 => by
    rcases h9 with ⟨rfl, h9, -⟩ | ⟨rfl, q, hq, h9⟩
    · exact ⟨⟨_, rfl⟩, .inl ⟨_, rfl, by simpa using h9⟩⟩
    · exact ⟨⟨_, rfl⟩, .inr ⟨q, hq, by simpa using h9⟩⟩
  clear h1 h2 hm hfd hY hJ hJ0 hW hb
  generalize ovK A k fm tl = LF at *
  generalize (R k.toList).root = rr at *
  go_enter Try.func37, Try.ntmps37
  go_wp2_with fail
  go_still_tail 12, (by kernel_rfl)
  go_wp2_with (go_at_call 38; refine Calls.mono (HWK.out _ (by (repeat (first | assumption | exact Same.refl _ _ | apply Same.alloc | apply Same.drew | apply Same.drewN)); done) (by first | exact HJ1.out | exact HJ0.out _)) ?_; intro r w1 hP; obtain ⟨⟨b, rfl⟩, hZ⟩ := HFIN.out _ _ _ hP; have HZ : Hid _ := hZ; clear hP hZ)
  go_end0
  exact ⟨⟨_, rfl⟩, HZ.out⟩
end Go.Proofs.Ytaiaahcblohknaa
