/- What is proved: the document's held and dirty answer as the plain ones do; its machine lies in memory. -/
import Derived.Test.YtmghmacgljihcaaKRn
namespace Go.Proofs.Ytmghmacgljihcaa
open Go.RowKit

abbrev opcO (o : OpM) : Obj := .cells #[.int .i64 o.kind, .string o.key, .bool o.found, .string o.value] 84 (0, 0)
theorem opc_cells {w : World} {g : Nat} {o : OpM} (h : w.heap[g]? = some (opcO o)) : w.cell? ⟨g, 0, none⟩ = some (.int .i64 o.kind) ∧ w.cell? ⟨g, 1, none⟩ = some (.string o.key) ∧ w.cell? ⟨g, 2, none⟩ = some (.bool o.found) ∧ w.cell? ⟨g, 3, none⟩ = some (.string o.value) :=
  ⟨(cell_of h 0).trans rfl, (cell_of h 1).trans rfl, (cell_of h 2).trans rfl, (cell_of h 3).trans rfl⟩
set_option maxRecDepth 100000 in
set_option maxHeartbeats 1600000 in
theorem rheld_none {w : World} {rb : Nat} (k : ByteArray) : Calls Try.prog 26 #[.pointer (some ⟨rb, 0, none⟩), .int .i64 (-1), .string k] w fun e w' => e = .returned (.tuple #[.string e0, .bool false]) ∧ Kept w w' := by
  go_enter Try.func26, Try.ntmps26
  go_wp2_with fail
  refine bodyPost_ret (results_tmp2 rfl _ _ _) rfl ?_
  exact ⟨rfl, Same.refl _ _⟩
set_option maxRecDepth 100000 in
set_option maxHeartbeats 3200000 in
theorem rheld_some {w : World} {rb n : Nat} {fl : Int} {R : Rr} {a : Option Addr} {cap : Nat} {ev : Value} (h : Rd w rb n fl R a cap ev) (hs : Sml R) {i : Nat} (hi : i < R.all.length) (k : ByteArray) (hl : (lastW (gR R.all i).t.ops k).isSome = true) :
    Calls Try.prog 26 #[.pointer (some ⟨rb, 0, none⟩), .int .i64 (i : Int), .string k] w fun e w' => e = .returned (.tuple #[.string (rHeld R.all (some i) k).2, .bool (rHeld R.all (some i) k).1]) ∧ Kept w w' := by
  obtain ⟨b, off, oa, oc, ta, tc, rfl, hb, hR⟩ := h.run i _ (gR_at hi)
  have hn := hs.n
  have hol := (hs.o _ (List.mem_of_getElem? (gR_at hi))).1
  rw [show rHeld R.all (some i) k = ((opL (gR R.all i).t k).found, (opL (gR R.all i).t k).value) from rfl]
  unfold opL
  obtain ⟨r, er⟩ : ∃ r, r = gR R.all i := ⟨_, rfl⟩
  rw [← er] at hR hol hl ⊢
  cases el : lastW r.t.ops k with
  | none => rw [el] at hl; cases hl
  | some p =>
    simp only
    have hp := lastW_lt el
    obtain ⟨o, ho⟩ : ∃ o, r.t.ops[p]? = some o := ⟨_, List.getElem?_eq_getElem hp⟩
    have hgd : r.t.ops.getD p z0 = o := by rw [List.getD_eq_getElem?_getD, ho]; rfl
    rw [hgd]
    obtain ⟨b2, off2, rfl, hb2, p0, p1, p2, p3⟩ := hR.ops p o ho
    have HLF : Hid (∀ W', Kept w W' → Calls Try.prog 39 #[txA r.t (.slice (some ⟨b2, off2, none⟩) r.t.ops.length oc), .string k] W' fun e w' => e = .returned (.int .i64 (p : Int)) ∧ Kept W' w') := fun W' k' => by
      have h9 := rleft15 W' r.t _ oc (hR.ops.on k') (by omega) k
      rw [el] at h9
      exact h9
    have y3 := h.c3
    have hrl := h.lt
    have q0 := hR.c0
    have q1 := hR.c1
    have q2 := hR.c2
    have q3 := hR.c3
    have q4 := hR.c4
    have q5 := hR.c5
    have q6 := hR.c6
    have q7 := hR.c7
    obtain ⟨L, eL⟩ : ∃ L, L = R.all.length := ⟨_, rfl⟩
    rw [← eL] at hn y3 hi
    obtain ⟨ol, eol⟩ : ∃ ol, ol = r.t.ops.length := ⟨_, rfl⟩
    rw [← eol] at hol hp q7 HLF
    have d1 : ¬ ((i : Int) < 0) := by omega
    have d2 : decide ((i : Int) < 0) = false := decide_eq_false d1
    have d3 : (i : Int) < (L : Int) := by omega
    have d4 : (0 : Int) ≤ (i : Int) := by omega
    have d5 : (p : Int) < (ol : Int) := by omega
    have d6 : (0 : Int) ≤ (p : Int) := by omega
    have HBX : Hid (∀ W', Kept w W' → Kept w W' ∧ (W'.cell? ⟨rb, 3, none⟩ = some (.slice (some ⟨b, off, none⟩) L cap) ∧ rb < W'.heap.size) ∧ (W'.cell? ⟨b, off + i * 10, none⟩ = some (.int .i64 r.t.f0) ∧ W'.cell? ⟨b, off + i * 10 + 1, none⟩ = some (.int .i64 r.t.f1) ∧ W'.cell? ⟨b, off + i * 10 + 2, none⟩ = some (.int .i64 r.t.f2) ∧ W'.cell? ⟨b, off + i * 10 + 3, none⟩ = some (.int .i64 r.t.f3) ∧ W'.cell? ⟨b, off + i * 10 + 4, none⟩ = some (.int .i64 r.t.f4) ∧ W'.cell? ⟨b, off + i * 10 + 5, none⟩ = some (.int .i64 r.t.f5) ∧ W'.cell? ⟨b, off + i * 10 + 6, none⟩ = some (.int .i64 r.t.f6) ∧ W'.cell? ⟨b, off + i * 10 + 7, none⟩ = some (.slice (some ⟨b2, off2, none⟩) ol oc)) ∧ (W'.cell? ⟨b2, off2 + p * 4, none⟩ = some (.int .i64 o.kind) ∧ W'.cell? ⟨b2, off2 + p * 4 + 1, none⟩ = some (.string o.key) ∧ W'.cell? ⟨b2, off2 + p * 4 + 2, none⟩ = some (.bool o.found) ∧ W'.cell? ⟨b2, off2 + p * 4 + 3, none⟩ = some (.string o.value))) := fun W' k' =>
      have t : ∀ x, W'.cell? ⟨b, x, none⟩ = w.cell? ⟨b, x, none⟩ := fun x => k'.cell (p := ⟨b, x, none⟩) hb (fun e => e)
      have t2 : ∀ x, W'.cell? ⟨b2, x, none⟩ = w.cell? ⟨b2, x, none⟩ := fun x => k'.cell (p := ⟨b2, x, none⟩) hb2 (fun e => e)
      ⟨k', ⟨(k'.cell (p := ⟨rb, 3, none⟩) hrl (fun e => e)).trans y3, Nat.lt_of_lt_of_le hrl k'.size⟩, ⟨(t _).trans q0, (t _).trans q1, (t _).trans q2, (t _).trans q3, (t _).trans q4, (t _).trans q5, (t _).trans q6, (t _).trans q7⟩, ⟨(t2 _).trans p0, (t2 _).trans p1, (t2 _).trans p2, (t2 _).trans p3⟩⟩
    have HLF3 : Hid (∀ (W' : World) (g : Nat), W'.heap[g]? = some (opcO z0) → Kept w W' → Calls Try.prog 39 #[txA r.t (.slice (some ⟨b2, off2, none⟩) ol oc), .string k] W' fun e w' => e = .returned (.int .i64 (p : Int)) ∧ Kept W' w' ∧ w'.heap[g]? = some (opcO z0) ∧ (w'.cell? ⟨g, 0, none⟩ = some (.int .i64 0) ∧ w'.cell? ⟨g, 1, none⟩ = some (.string ⟨#[]⟩) ∧ w'.cell? ⟨g, 2, none⟩ = some (.bool false) ∧ w'.cell? ⟨g, 3, none⟩ = some (.string ⟨#[]⟩)) ∧ w'.frozen? ⟨g, 0, none⟩ = false ∧ w'.frozen? ⟨g, 1, none⟩ = false ∧ w'.frozen? ⟨g, 2, none⟩ = false ∧ w'.frozen? ⟨g, 3, none⟩ = false ∧ g < w'.heap.size) := fun W' g hg k' => (HLF.out W' k').mono fun e w' h9 => have h8 := (h9.2.block g (lt_of_heap hg) (fun e => e)).trans hg; ⟨h9.1, h9.2, h8, opc_cells h8, frozen_of h8 0, frozen_of h8 1, frozen_of h8 2, frozen_of h8 3, lt_of_heap h8⟩
    clear h hs hR er hl el ho hgd eL eol
    go_enter Try.func26, Try.ntmps26
    go_upto_region 3 with fail
    go_cut [8] (fun s8 wx => ∃ g8, s8 = .pointer (some ⟨g8, 0, none⟩) ∧ wx.heap[g8]? = some (opcO o) ∧ Kept w wx)
    case first =>
      go_region_held3 (fun W' => Kept w W' ∧ (W'.cell? ⟨rb, 3, none⟩ = some (.slice (some ⟨b, off, none⟩) L cap) ∧ rb < W'.heap.size) ∧ (W'.cell? ⟨b, off + i * 10, none⟩ = some (.int .i64 r.t.f0) ∧ W'.cell? ⟨b, off + i * 10 + 1, none⟩ = some (.int .i64 r.t.f1) ∧ W'.cell? ⟨b, off + i * 10 + 2, none⟩ = some (.int .i64 r.t.f2) ∧ W'.cell? ⟨b, off + i * 10 + 3, none⟩ = some (.int .i64 r.t.f3) ∧ W'.cell? ⟨b, off + i * 10 + 4, none⟩ = some (.int .i64 r.t.f4) ∧ W'.cell? ⟨b, off + i * 10 + 5, none⟩ = some (.int .i64 r.t.f5) ∧ W'.cell? ⟨b, off + i * 10 + 6, none⟩ = some (.int .i64 r.t.f6) ∧ W'.cell? ⟨b, off + i * 10 + 7, none⟩ = some (.slice (some ⟨b2, off2, none⟩) ol oc)) ∧ (W'.cell? ⟨b2, off2 + p * 4, none⟩ = some (.int .i64 o.kind) ∧ W'.cell? ⟨b2, off2 + p * 4 + 1, none⟩ = some (.string o.key) ∧ W'.cell? ⟨b2, off2 + p * 4 + 2, none⟩ = some (.bool o.found) ∧ W'.cell? ⟨b2, off2 + p * 4 + 3, none⟩ = some (.string o.value)))
        (exact HBX.out _ (by (repeat (first | assumption | exact Same.refl _ _ | apply Same.alloc | apply Same.drew | apply Same.drewN | refine put4_same ?_ (.inl (Nat.le_refl _)) _ _ _ _ | refine Same.trans' ?_ kq)); done))
        (first
        | (go_at_call 39; refine Calls.mono (HLF3.out _ w.heap.size ?_ ?_) ?_; (focus (exact heap_new _ _)); (focus ((repeat (first | exact Same.refl _ _ | apply Same.alloc | apply Same.drew | apply Same.drewN)); done)); rintro r3 w4 ⟨rfl, kq, hg9, ⟨b0, b1, b2', b3⟩, f0, f1, f2, f3, hg4⟩; have HG9 : Hid (w4.heap[w.heap.size]? = some (opcO z0)) := hg9; clear hg9)
        | (go_at_call 39; refine Calls.mono (HLF.out _ ?_) ?_; (focus ((repeat (first | exact Same.refl _ _ | apply Same.alloc | apply Same.drew | apply Same.drewN)); done)); rintro r3 w4 ⟨rfl, kq⟩))
      all_goals
        go_wp2_with fail
        go_meet
        first
        | exact ⟨_, rfl, put4 HG9.out _ _ _ _, (by (repeat (first | exact Same.refl _ _ | apply Same.alloc | apply Same.drew | apply Same.drewN | refine put4_same ?_ (.inl (Nat.le_refl _)) _ _ _ _ | refine Same.trans' ?_ kq)); done)⟩
        | exact ⟨_, rfl, heap_new _ _, (by (repeat (first | exact Same.refl _ _ | apply Same.alloc | apply Same.drew | apply Same.drewN | refine put4_same ?_ (.inl (Nat.le_refl _)) _ _ _ _ | refine Same.trans' ?_ kq)); done)⟩
    case rest =>
      rename World => Z
      obtain ⟨g8, rfl, hg8, kz⟩ := hcut
      obtain ⟨y0, y1, y2, y4⟩ := opc_cells hg8
      have KZ : Hid (Kept w Z) := kz
      have hl8 := lt_of_heap hg8
      clear hg8 kz
      go_wp2_with fail
      go_quiet (fail)
      go_wp2_with fail
      refine bodyPost_ret (results_tmp2 rfl _ _ _) rfl ?_
      exact ⟨rfl, Same.drewN KZ.out _⟩
end Go.Proofs.Ytmghmacgljihcaa
