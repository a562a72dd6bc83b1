/- What is proved: cut takes an extent out of the hole that it lies in; the space lies in memory. -/
import Derived.Test.YtpjkmficpedmcaaERepl
import Derived.Deep.DeepCutAuto
namespace Go.Proofs.Ytpjkmficpedmcaa
open Go.RowKit
set_option maxRecDepth 100000

/-- What a call that turns the space leaves. -/
def Upd (w : World) (p N hb : Nat) (L : List Ex) (w' : World) : Prop :=
  ∃ a' hb' c', Sp w' p N L a' hb' c' ∧ (hb' = hb ∨ w.heap.size ≤ hb') ∧ Same (fun k => k = p ∨ k = hb) w w'
theorem row_ne {w : World} {p N : Nat} {a : Option Addr} {n c g d : Nat} {L : List Ex} (h : w.heap[p]? = some (spO N a n c)) (hr : Row w g d L) : g ≠ p := by
  rintro rfl
  obtain ⟨A, h1, _⟩ := hr
  unfold Blk at h1
  rw [h] at h1
  simp at h1

theorem row_of_new (w : World) (x : Ex) : Row (w.alloc (exO x)) w.heap.size 1 [x] := ⟨[.int .i64 x.f, .int .i64 x.c], heap_new _ _, rfl, Nat.le_refl _, fun _ _ => rfl⟩
/-- The room for what is left of a hole. -/
abbrev mk2O : Obj := .cells (madeCells (Value.cells (.agg #[.int .i64 0, .int .i64 0])) 4) 65 (0, 0)
theorem make2 (w : World) : (Instr.makeSlice 61 (.int .i64 0) (.int .i64 2)).run Try.prog w = .ok (.slice (some ⟨w.heap.size, 0, none⟩) 0 2) (w.alloc mk2O) := by
  obtain ⟨i0, hi0, hz0, hz1, hz2⟩ := info_parts Try.infoExt
  have hr := run_make (P := Try.prog) w 61 65 i0 _ Try.underlying61 hi0 hz0 .i64 .i64 0 2 (by omega) (by omega) (by rw [hz2]; omega) (by omega)
  rw [hr, hz1]
  rfl
theorem row_made (w : World) : Row (w.alloc mk2O) w.heap.size 2 [] := ⟨(madeCells (Value.cells (.agg #[.int .i64 0, .int .i64 0])) 4).toList, heap_new _ _, by simp [madeCells], Nat.zero_le _, fun k hk => by simp at hk⟩
/-- One more extent into that room. -/
theorem app_one {W : World} {g vb : Nat} {R : List Ex} {x : Ex} {k : Nat} (hR : Row W g 2 R) (hk : R.length = k) (hk1 : k ≤ 1) (hx : Row W vb 1 [x]) (ty : TypeId) :
    ∃ v' w', (Builtin.append_ #[61, 61] ty #[.slice (some ⟨g, 0, none⟩) k 2, .slice (some ⟨vb, 0, none⟩) 1 1]).run Try.prog W = .ok v' w' ∧ (v' = .slice (some ⟨g, 0, none⟩) (k + 1) 2 ∧ Row w' g 2 (R ++ [x]) ∧ Same (fun k => k = g) W w') := by
  obtain ⟨w', r1, r2, r3⟩ := app_row (X := R) (R := []) (V := [x]) (vc := 1) (by rw [List.append_nil]; exact hR) hk hx.exts (by show k + 1 ≤ 2; omega) ty
  exact ⟨_, w', r1, rfl, r2.prefix, r3⟩

/-- What lies in memory while cut works: the boxes of x and of the hole h, the room with R. -/
structure CutAt (w w' : World) (x h : Ex) (R : List Ex) : Prop where
  b0 : w'.heap[w.heap.size]? = some (exO x)
  b1 : w'.heap[w.heap.size + 1]? = some (exO h)
  row : Row w' (w.heap.size + 1 + 1) 2 R
  kept : Kept w w'
theorem CutAt.start (w : World) (x h : Ex) : CutAt w (((w.alloc (exO x)).alloc (exO h)).alloc mk2O) x h [] := by
  have s1 : (w.alloc (exO x)).heap.size = w.heap.size + 1 := by simp
  have s2 : ((w.alloc (exO x)).alloc (exO h)).heap.size = w.heap.size + 1 + 1 := by simp
  refine ⟨(heap_old _ _ (by rw [s2]; omega)).trans ((heap_old _ _ (by rw [s1]; omega)).trans (heap_new _ _)), (heap_old _ _ (by rw [s2]; omega)).trans (by rw [← s1]; exact heap_new _ _), ?_, (((Same.refl _ w).alloc _).alloc _).alloc _⟩
  have := row_made ((w.alloc (exO x)).alloc (exO h))
  rw [s2] at this
  exact this
theorem CutAt.on {w w1 w2 : World} {x h : Ex} {R : List Ex} (c : CutAt w w1 x h R) (k : Kept w1 w2) : CutAt w w2 x h R :=
  ⟨(k.block _ (lt_of_heap c.b0) (fun h => h)).trans c.b0, (k.block _ (lt_of_heap c.b1) (fun h => h)).trans c.b1, c.row.kept k (fun h => h), c.kept.trans' k⟩
theorem CutAt.app {w w1 w2 : World} {x h : Ex} {R R' : List Ex} (c : CutAt w w1 x h R) (k : Same (fun k => k = w.heap.size + 1 + 1) w1 w2) (r : Row w2 (w.heap.size + 1 + 1) 2 R') : CutAt w w2 x h R' :=
  ⟨(k.block _ (lt_of_heap c.b0) (by show ¬ _ = _; omega)).trans c.b0, (k.block _ (lt_of_heap c.b1) (by show ¬ _ = _; omega)).trans c.b1, r, c.kept.trans k (fun i hi e => by omega)⟩
theorem CutAt.cells {w w1 : World} {x h : Ex} {R : List Ex} (c : CutAt w w1 x h R) : ∀ w3, Kept w1 w3 → Kept w1 w3 ∧ w3.cell? ⟨w.heap.size, 0, none⟩ = some (.int .i64 x.f) ∧ w3.cell? ⟨w.heap.size, 1, none⟩ = some (.int .i64 x.c) ∧ w3.cell? ⟨w.heap.size + 1, 0, none⟩ = some (.int .i64 h.f) ∧ w3.cell? ⟨w.heap.size + 1, 1, none⟩ = some (.int .i64 h.c) := fun w3 k => by
  have c' := c.on k
  exact ⟨k, (cell_of c'.b0 0).trans rfl, (cell_of c'.b0 1).trans rfl, (cell_of c'.b1 0).trans rfl, (cell_of c'.b1 1).trans rfl⟩

/-- The end of a call that turns the holes: the new slice is stored. -/
theorem Upd.of {w wx w1 : World} {p N : Nat} {L L' : List Ex} {a : Option Addr} {hb c hb' c' : Nat} (hS : Sp w p N L a hb c) (k : Kept w wx) (hr : Row w1 hb' c' L') (hb2 : hb' = hb ∨ wx.heap.size ≤ hb') (ks : Same (fun k => k = hb) wx w1) (hne : hb ≠ p) (wf : eWF 0 N L') {ln : Nat} (hln : ln = L'.length) :
    Upd w p N hb L' (w1.setCell ⟨p, 1, none⟩ (.slice (some ⟨hb', 0, none⟩) ln c')) := by
  subst hln
  have hp1 : w1.heap[p]? = some (spO N a L.length c) := (ks.block _ (Nat.lt_of_lt_of_le hS.lt k.size) (fun e => hne e.symm)).trans ((k.block _ hS.lt (fun h => h)).trans hS.obj)
  have hne' : hb' ≠ p := row_ne hp1 hr
  have k3 : Same (fun k => k = p) w1 (w1.setCell ⟨p, 1, none⟩ (.slice (some ⟨hb', 0, none⟩) L'.length c')) := Same.setCell (S := fun k => k = p) (Same.refl _ _) ⟨p, 1, none⟩ (.inr rfl) _
  refine ⟨some ⟨hb', 0, none⟩, hb', c', ⟨(setCell_at hp1 1 _).trans (by simp), .inr ⟨rfl, hr.kept k3 hne'⟩, wf, hS.small⟩, hb2.imp id (Nat.le_trans k.size), ?_⟩
  exact ((k.to _).trans' (ks.mono fun _ _ e => .inr e)).trans' (k3.mono fun _ _ e => .inl e)
theorem split_at {L : List Ex} {i : Nat} {h : Ex} (hi : L[i]? = some h) : L = L.take i ++ h :: L.drop (i + 1) := by
  obtain ⟨hl, e⟩ := List.getElem?_eq_some_iff.1 hi
  rw [← e, ← List.drop_eq_getElem_cons hl, List.take_append_drop]
theorem CutAt.cells2 {w w1 : World} {x h : Ex} {R : List Ex} (c : CutAt w w1 x h R) : ∀ w3, Same (fun k => k = w.heap.size + 1 + 1) w1 w3 → Same (fun k => k = w.heap.size + 1 + 1) w1 w3 ∧ w3.cell? ⟨w.heap.size, 0, none⟩ = some (.int .i64 x.f) ∧ w3.cell? ⟨w.heap.size, 1, none⟩ = some (.int .i64 x.c) ∧ w3.cell? ⟨w.heap.size + 1, 0, none⟩ = some (.int .i64 h.f) ∧ w3.cell? ⟨w.heap.size + 1, 1, none⟩ = some (.int .i64 h.c) := fun w3 k => by
  have e0 := (k.block _ (lt_of_heap c.b0) (by show ¬ _ = _; omega)).trans c.b0
  have e1 := (k.block _ (lt_of_heap c.b1) (by show ¬ _ = _; omega)).trans c.b1
  exact ⟨k, (cell_of e0 0).trans rfl, (cell_of e0 1).trans rfl, (cell_of e1 0).trans rfl, (cell_of e1 1).trans rfl⟩

set_option maxRecDepth 100000 in
set_option maxHeartbeats 3200000 in
theorem cut_no {w : World} {p N : Nat} {L : List Ex} {a : Option Addr} {hb c : Nat} (hS : Sp w p N L a hb c) {i : Nat} {h x : Ex} (hi : L[i]? = some h) (hx : Sm x) (hx1 : 1 ≤ x.c) (hin : inb x h = true) (h1 : ¬ h.f < x.f) :
    Calls Try.prog 33 #[.pointer (some ⟨p, 0, none⟩), .int .i64 (i : Int), exV x] w fun r w' => r = .returned (.tuple #[]) ∧ Upd w p N hb (L.take i ++ rest h x ++ L.drop (i + 1)) w' := by
  have hh := hS.wf.sm hS.small h (List.mem_of_getElem? hi)
  have H1 : Hid (∀ w', _) := fun w' => end_any x hx w'
  have H2 : Hid (∀ w', _) := fun w' => end_any h hh w'
  have hil := (List.getElem?_eq_some_iff.1 hi).1
  have c1 : w.cell? ⟨p, 1, none⟩ = some (.slice a L.length c) := (cell_of hS.obj 1).trans rfl
  have hpl := hS.lt
  obtain ⟨b, off, ea, hbl, q0, q1⟩ := hS.exts i h hi
  have ehb : b = hb ∧ off = 0 ∧ Row w hb c L := by
    rcases hS.row with ⟨e, _⟩ | ⟨e, hr⟩
    · rw [e] at ea; cases ea
    · rw [e] at ea; cases ea; exact ⟨rfl, rfl, hr⟩
  obtain ⟨rfl, rfl, hrow⟩ := ehb
  subst ea
  rw [Nat.zero_add] at q0 q1
  have HNE : Hid (b ≠ p) := row_ne hS.obj hrow
  have HRow : Hid _ := hrow
  have HWF0 : Hid (∀ R, rest h x = R → eWF 0 N (L.take i ++ R ++ L.drop (i + 1)) ∧ rest h x = R) := fun R e => ⟨by
    have h0 := hS.wf
    rw [split_at hi] at h0
    rw [← e]
    exact (cut_wf h0 hin hx1).1, e⟩
  have HS : Hid _ := hS
  obtain ⟨n, en⟩ : ∃ n, n = L.length := ⟨_, rfl⟩
  have hn := hS.wf.len hS.small
  rw [← en] at c1 hil hn
  have EN : Hid _ := en
  have hil2 : (i : Int) < (n : Int) := by omega
  have hmk := make2
  have CS : Hid _ := CutAt.start w x h
  simp only [inb, Bool.and_eq_true, decide_eq_true_eq] at hin
  obtain ⟨n1, n2⟩ := hin
  obtain ⟨p1, p2, p3⟩ := hx
  obtain ⟨r1, r2, r3⟩ := hh
  obtain ⟨xe, exe⟩ : ∃ xe, xe = x.f + x.c := ⟨_, rfl⟩
  obtain ⟨he, ehe⟩ : ∃ he, he = h.f + h.c := ⟨_, rfl⟩
  have HB1 : Hid (∀ w', _) := fun w' => between_any h.f x.f r1 n1 (by omega) w'
  have HB2 : Hid (xe ≤ he → ∀ w', _) := fun q w' => between_any xe he (by omega) q (by omega) w'
  rw [← exe] at H1 p3 n2
  rw [← ehe] at H2 r3 n2
  have EX : Hid _ := exe
  have EH : Hid _ := ehe
  clear hi en exe ehe hS hrow
  unfold exV exO at *
  have h1' : decide (h.f < x.f) = false := decide_eq_false h1
  have H1N : Hid _ := h1
  go_enter Try.func33, Try.ntmps33
  go_wp2_with fail
  obtain ⟨WC, eW⟩ : ∃ WC, WC = ((w.alloc (exO x)).alloc (exO h)).alloc mk2O := ⟨_, rfl⟩
  have CA : Hid (CutAt w WC x h []) := by rw [eW]; exact CS.out
  rw [← eW]
  clear eW
  go_cut [33] (fun s33 wx => s33 = .bool (decide (xe < he)) ∧ CutAt w wx x h [])
  case first =>
    have HX : Hid _ := CutAt.cells CA.out
    go_region_held3 (fun w' => Kept WC w' ∧ w'.cell? ⟨w.heap.size, 0, none⟩ = some (.int .i64 x.f) ∧ w'.cell? ⟨w.heap.size, 1, none⟩ = some (.int .i64 x.c) ∧ w'.cell? ⟨w.heap.size + 1, 0, none⟩ = some (.int .i64 h.f) ∧ w'.cell? ⟨w.heap.size + 1, 1, none⟩ = some (.int .i64 h.c))
      (exact HX.out _ (by (repeat (first | exact Same.refl _ _ | apply Same.alloc | apply Same.drew | refine Same.trans' ?_ k1 | refine Same.trans' ?_ k2 | refine Same.trans' ?_ k3)); done))
      (first
        | (refine Calls.mono (H1.out _) ?_; rintro r w1 ⟨rfl, k1⟩)
        | (refine Calls.mono (H2.out _) ?_; rintro r w2 ⟨rfl, k2⟩))
    all_goals
      go_wp2_with fail
      go_meet
      exact ⟨rfl, CA.out.on (by (repeat (first | exact Same.refl _ _ | apply Same.alloc | apply Same.drew | refine Same.trans' ?_ k1 | refine Same.trans' ?_ k2 | refine Same.trans' ?_ k3)); done)⟩
  case rest =>
    obtain ⟨rfl, hca⟩ := hcut
    have CA2 : Hid _ := hca
    clear hca
    by_cases h2 : xe < he
    · have h2' : decide (xe < he) = true := decide_eq_true h2
      have HWF : Hid _ := HWF0.out ([] ++ [⟨xe, he - xe⟩]) (by rw [rest, if_neg H1N.out, if_pos (by rw [← EX.out, ← EH.out]; exact h2), ← EX.out, ← EH.out])
      go_wp2_with fail
      go_cut [7] (fun s7 wx => s7 = .slice (some ⟨w.heap.size + 1 + 1, 0, none⟩) (0 + 1) 2 ∧ CutAt w wx x h ([] ++ [⟨xe, he - xe⟩]))
      case first =>
        have HX : Hid _ := CutAt.cells2 CA2.out
        go_region_held3 (fun w' => Same (fun k => k = w.heap.size + 1 + 1) wc w' ∧ w'.cell? ⟨w.heap.size, 0, none⟩ = some (.int .i64 x.f) ∧ w'.cell? ⟨w.heap.size, 1, none⟩ = some (.int .i64 x.c) ∧ w'.cell? ⟨w.heap.size + 1, 0, none⟩ = some (.int .i64 h.f) ∧ w'.cell? ⟨w.heap.size + 1, 1, none⟩ = some (.int .i64 h.c))
          (exact HX.out _ (by (repeat (first | exact Same.refl _ _ | apply Same.alloc | apply Same.drew | refine Same.trans' ?_ (Kept.to k1 _) | refine Same.trans' ?_ (Kept.to k2 _) | refine Same.trans' ?_ (Kept.to k3 _) | refine Same.trans' ?_ ka)); done))
          (first
            | (go_at_call 38; refine Calls.mono (H1.out _) ?_; rintro r w1 ⟨rfl, k1⟩)
            | (go_at_call 38; refine Calls.mono (H2.out _) ?_; rintro r w2 ⟨rfl, k2⟩)
            | (go_at_call 37; refine Calls.mono (HB2.out (Int.le_of_lt h2) _) ?_; rintro r w3 ⟨rfl, k3⟩)
            | (refine estep_app rfl (.tmp 34) (.tmp 40) 61 rfl (.slice (some ⟨w.heap.size + 1 + 1, 0, none⟩) 0 2) (.slice (some ⟨_, 0, none⟩) 1 1) rfl rfl _ (app_one (k := 0) (x := ⟨xe, he - xe⟩) (CutAt.on CA2.out (by (repeat (first | exact Same.refl _ _ | apply Same.alloc | apply Same.drew | refine Same.trans' ?_ k1 | refine Same.trans' ?_ k2 | refine Same.trans' ?_ k3)); done)).row rfl (by decide) (row_of_new _ ⟨xe, he - xe⟩)) ?_; rintro v3 w5 ⟨rfl, rw5, ka⟩))
        all_goals
          go_wp2_with fail
          go_meet
          exact ⟨rfl, CutAt.app (CA2.out.on (by (repeat (first | exact Same.refl _ _ | apply Same.alloc | apply Same.drew | refine Same.trans' ?_ k1 | refine Same.trans' ?_ k2 | refine Same.trans' ?_ k3)); done)) ka rw5⟩
      case rest =>
        obtain ⟨rfl, hcb⟩ := hcut
        have CAX : Hid _ := hcb
        clear hcb
        have CA3 := CAX.out
        have hpc : wc.cell? ⟨p, 1, none⟩ = some (.slice (some ⟨b, 0, none⟩) n c) := (CA3.kept.cell (p := ⟨p, 1, none⟩) hpl (fun h => h)).trans c1
        have hpl3 : p < wc.heap.size := Nat.lt_of_lt_of_le hpl CA3.kept.size
        have HRP : Hid _ := replace_any (i := i) (j := i + 1) (Row.kept HRow.out CA3.kept (fun h => h)) CA3.row (by omega) (by omega) (by rw [← EN.out]; omega) (by show 1 ≤ _; omega) (fun h => by omega) (by rw [← EN.out]; exact hn)
        rw [← EN.out, Int.natCast_add, Int.natCast_one] at HRP
        have HK : Hid _ := CA3.kept
        clear CA3
        go_wp2_with fail
        refine Calls.mono HRP.out ?_
        rintro r w4 ⟨v, rfl, hb', c', rfl, hr4, hn4, ks4⟩
        have hp4 : w4.heap[p]? = some (spO N (some ⟨b, 0, none⟩) n c) := (ks4.block _ hpl3 (fun e => HNE.out e.symm)).trans ((HK.out.block _ hpl (fun h => h)).trans (by rw [EN.out]; exact HS.out.obj))
        have hc4 : w4.cell? ⟨p, 1, none⟩ = some (.slice (some ⟨b, 0, none⟩) n c) := (cell_of hp4 1).trans rfl
        have hf4 : w4.frozen? ⟨p, 1, none⟩ = false := frozen_of hp4 1
        have hp4l := lt_of_heap hp4
        have HR4 : Hid _ := hr4
        have HN4 : Hid _ := hn4
        have SK4 : Hid _ := ks4
        clear hr4 hn4 ks4 hp4
        go_wp2_with fail
        go_end0
        refine ⟨rfl, ?_⟩
        rw [HWF.out.2]
        exact Upd.of HS.out HK.out HR4.out HN4.out SK4.out HNE.out (HWF.out.1) (by simp only [List.length_append, List.length_take, List.length_drop, List.length_cons, List.length_nil]; omega)
    · have h2' : decide (xe < he) = false := decide_eq_false h2
      have HWF : Hid _ := HWF0.out [] (by rw [rest, if_neg H1N.out, if_neg (by rw [← EX.out, ← EH.out]; exact h2), List.append_nil])
      have CAX : Hid _ := CA2.out
      have CA3 := CAX.out
      have hpc : wc.cell? ⟨p, 1, none⟩ = some (.slice (some ⟨b, 0, none⟩) n c) := (CA3.kept.cell (p := ⟨p, 1, none⟩) hpl (fun h => h)).trans c1
      have hpl3 : p < wc.heap.size := Nat.lt_of_lt_of_le hpl CA3.kept.size
      have HRP : Hid _ := replace_any (i := i) (j := i + 1) (Row.kept HRow.out CA3.kept (fun h => h)) CA3.row (by omega) (by omega) (by rw [← EN.out]; omega) (by show 0 ≤ _; omega) (fun h => by omega) (by rw [← EN.out]; exact hn)
      rw [← EN.out, Int.natCast_add, Int.natCast_one] at HRP
      have HK : Hid _ := CA3.kept
      clear CA3
      go_wp2_with fail
      refine Calls.mono HRP.out ?_
      rintro r w4 ⟨v, rfl, hb', c', rfl, hr4, hn4, ks4⟩
      have hp4 : w4.heap[p]? = some (spO N (some ⟨b, 0, none⟩) n c) := (ks4.block _ hpl3 (fun e => HNE.out e.symm)).trans ((HK.out.block _ hpl (fun h => h)).trans (by rw [EN.out]; exact HS.out.obj))
      have hc4 : w4.cell? ⟨p, 1, none⟩ = some (.slice (some ⟨b, 0, none⟩) n c) := (cell_of hp4 1).trans rfl
      have hf4 : w4.frozen? ⟨p, 1, none⟩ = false := frozen_of hp4 1
      have hp4l := lt_of_heap hp4
      have HR4 : Hid _ := hr4
      have HN4 : Hid _ := hn4
      have SK4 : Hid _ := ks4
      clear hr4 hn4 ks4 hp4
      go_wp2_with fail
      go_end0
      refine ⟨rfl, ?_⟩
      rw [HWF.out.2]
      exact Upd.of HS.out HK.out HR4.out HN4.out SK4.out HNE.out (HWF.out.1) (by simp only [List.length_append, List.length_take, List.length_drop, List.length_nil]; omega)

set_option maxRecDepth 100000 in
set_option maxHeartbeats 3200000 in
theorem cut_yes {w : World} {p N : Nat} {L : List Ex} {a : Option Addr} {hb c : Nat} (hS : Sp w p N L a hb c) {i : Nat} {h x : Ex} (hi : L[i]? = some h) (hx : Sm x) (hx1 : 1 ≤ x.c) (hin : inb x h = true) (h1 : h.f < x.f) :
    Calls Try.prog 33 #[.pointer (some ⟨p, 0, none⟩), .int .i64 (i : Int), exV x] w fun r w' => r = .returned (.tuple #[]) ∧ Upd w p N hb (L.take i ++ rest h x ++ L.drop (i + 1)) w' := by
  have hh := hS.wf.sm hS.small h (List.mem_of_getElem? hi)
  have H1 : Hid (∀ w', _) := fun w' => end_any x hx w'
  have H2 : Hid (∀ w', _) := fun w' => end_any h hh w'
  have hil := (List.getElem?_eq_some_iff.1 hi).1
  have c1 : w.cell? ⟨p, 1, none⟩ = some (.slice a L.length c) := (cell_of hS.obj 1).trans rfl
  have hpl := hS.lt
  obtain ⟨b, off, ea, hbl, q0, q1⟩ := hS.exts i h hi
  have ehb : b = hb ∧ off = 0 ∧ Row w hb c L := by
    rcases hS.row with ⟨e, _⟩ | ⟨e, hr⟩
    · rw [e] at ea; cases ea
    · rw [e] at ea; cases ea; exact ⟨rfl, rfl, hr⟩
  obtain ⟨rfl, rfl, hrow⟩ := ehb
  subst ea
  rw [Nat.zero_add] at q0 q1
  have HNE : Hid (b ≠ p) := row_ne hS.obj hrow
  have HRow : Hid _ := hrow
  have HWF0 : Hid (∀ R, rest h x = R → eWF 0 N (L.take i ++ R ++ L.drop (i + 1)) ∧ rest h x = R) := fun R e => ⟨by
    have h0 := hS.wf
    rw [split_at hi] at h0
    rw [← e]
    exact (cut_wf h0 hin hx1).1, e⟩
  have HS : Hid _ := hS
  obtain ⟨n, en⟩ : ∃ n, n = L.length := ⟨_, rfl⟩
  have hn := hS.wf.len hS.small
  rw [← en] at c1 hil hn
  have EN : Hid _ := en
  have hil2 : (i : Int) < (n : Int) := by omega
  have hmk := make2
  have CS : Hid _ := CutAt.start w x h
  simp only [inb, Bool.and_eq_true, decide_eq_true_eq] at hin
  obtain ⟨n1, n2⟩ := hin
  obtain ⟨p1, p2, p3⟩ := hx
  obtain ⟨r1, r2, r3⟩ := hh
  obtain ⟨xe, exe⟩ : ∃ xe, xe = x.f + x.c := ⟨_, rfl⟩
  obtain ⟨he, ehe⟩ : ∃ he, he = h.f + h.c := ⟨_, rfl⟩
  have HB1 : Hid (∀ w', _) := fun w' => between_any h.f x.f r1 n1 (by omega) w'
  have HB2 : Hid (xe ≤ he → ∀ w', _) := fun q w' => between_any xe he (by omega) q (by omega) w'
  rw [← exe] at H1 p3 n2
  rw [← ehe] at H2 r3 n2
  have EX : Hid _ := exe
  have EH : Hid _ := ehe
  clear hi en exe ehe hS hrow
  unfold exV exO at *
  have h1' : decide (h.f < x.f) = true := decide_eq_true h1
  have H1N : Hid _ := h1
  go_enter Try.func33, Try.ntmps33
  go_wp2_with fail
  refine Calls.mono (HB1.out _) ?_
  rintro r w1 ⟨rfl, k1⟩
  have CB : Hid _ := CS.out.on k1
  go_wp2_with (at_builtin; (refine ewpList_app rfl (.tmp 21) (.tmp 27) 61 rfl _ _ rfl rfl _ (fun ty => app_one (k := 0) (x := ⟨h.f, x.f - h.f⟩) (CutAt.on CB.out (Same.alloc (Same.refl _ _) _)).row rfl (by decide) (row_of_new _ ⟨h.f, x.f - h.f⟩) ty) ?_); rintro v' WC ⟨rfl, rwC, ka⟩)
  have CA : Hid (CutAt w WC x h [⟨h.f, x.f - h.f⟩]) := CutAt.app (CB.out.on (Same.alloc (Same.refl _ _) _)) ka rwC
  clear k1 ka rwC
  go_cut [33] (fun s33 wx => s33 = .bool (decide (xe < he)) ∧ CutAt w wx x h [⟨h.f, x.f - h.f⟩])
  case first =>
    have HX : Hid _ := CutAt.cells CA.out
    go_region_held3 (fun w' => Kept WC w' ∧ w'.cell? ⟨w.heap.size, 0, none⟩ = some (.int .i64 x.f) ∧ w'.cell? ⟨w.heap.size, 1, none⟩ = some (.int .i64 x.c) ∧ w'.cell? ⟨w.heap.size + 1, 0, none⟩ = some (.int .i64 h.f) ∧ w'.cell? ⟨w.heap.size + 1, 1, none⟩ = some (.int .i64 h.c))
      (exact HX.out _ (by (repeat (first | exact Same.refl _ _ | apply Same.alloc | apply Same.drew | refine Same.trans' ?_ k1 | refine Same.trans' ?_ k2 | refine Same.trans' ?_ k3)); done))
      (first
        | (refine Calls.mono (H1.out _) ?_; rintro r w1 ⟨rfl, k1⟩)
        | (refine Calls.mono (H2.out _) ?_; rintro r w2 ⟨rfl, k2⟩))
    all_goals
      go_wp2_with fail
      go_meet
      exact ⟨rfl, CA.out.on (by (repeat (first | exact Same.refl _ _ | apply Same.alloc | apply Same.drew | refine Same.trans' ?_ k1 | refine Same.trans' ?_ k2 | refine Same.trans' ?_ k3)); done)⟩
  case rest =>
    obtain ⟨rfl, hca⟩ := hcut
    have CA2 : Hid _ := hca
    clear hca
    by_cases h2 : xe < he
    · have h2' : decide (xe < he) = true := decide_eq_true h2
      have HWF : Hid _ := HWF0.out ([⟨h.f, x.f - h.f⟩] ++ [⟨xe, he - xe⟩]) (by rw [rest, if_pos H1N.out, if_pos (by rw [← EX.out, ← EH.out]; exact h2), ← EX.out, ← EH.out])
      go_wp2_with fail
      go_cut [7] (fun s7 wx => s7 = .slice (some ⟨w.heap.size + 1 + 1, 0, none⟩) (1 + 1) 2 ∧ CutAt w wx x h ([⟨h.f, x.f - h.f⟩] ++ [⟨xe, he - xe⟩]))
      case first =>
        have HX : Hid _ := CutAt.cells2 CA2.out
        go_region_held3 (fun w' => Same (fun k => k = w.heap.size + 1 + 1) wc w' ∧ w'.cell? ⟨w.heap.size, 0, none⟩ = some (.int .i64 x.f) ∧ w'.cell? ⟨w.heap.size, 1, none⟩ = some (.int .i64 x.c) ∧ w'.cell? ⟨w.heap.size + 1, 0, none⟩ = some (.int .i64 h.f) ∧ w'.cell? ⟨w.heap.size + 1, 1, none⟩ = some (.int .i64 h.c))
          (exact HX.out _ (by (repeat (first | exact Same.refl _ _ | apply Same.alloc | apply Same.drew | refine Same.trans' ?_ (Kept.to k1 _) | refine Same.trans' ?_ (Kept.to k2 _) | refine Same.trans' ?_ (Kept.to k3 _) | refine Same.trans' ?_ ka)); done))
          (first
            | (go_at_call 38; refine Calls.mono (H1.out _) ?_; rintro r w1 ⟨rfl, k1⟩)
            | (go_at_call 38; refine Calls.mono (H2.out _) ?_; rintro r w2 ⟨rfl, k2⟩)
            | (go_at_call 37; refine Calls.mono (HB2.out (Int.le_of_lt h2) _) ?_; rintro r w3 ⟨rfl, k3⟩)
            | (refine estep_app rfl (.tmp 34) (.tmp 40) 61 rfl (.slice (some ⟨w.heap.size + 1 + 1, 0, none⟩) 1 2) (.slice (some ⟨_, 0, none⟩) 1 1) rfl rfl _ (app_one (k := 1) (x := ⟨xe, he - xe⟩) (CutAt.on CA2.out (by (repeat (first | exact Same.refl _ _ | apply Same.alloc | apply Same.drew | refine Same.trans' ?_ k1 | refine Same.trans' ?_ k2 | refine Same.trans' ?_ k3)); done)).row rfl (by decide) (row_of_new _ ⟨xe, he - xe⟩)) ?_; rintro v3 w5 ⟨rfl, rw5, ka⟩))
        all_goals
          go_wp2_with fail
          go_meet
          exact ⟨rfl, CutAt.app (CA2.out.on (by (repeat (first | exact Same.refl _ _ | apply Same.alloc | apply Same.drew | refine Same.trans' ?_ k1 | refine Same.trans' ?_ k2 | refine Same.trans' ?_ k3)); done)) ka rw5⟩
      case rest =>
        obtain ⟨rfl, hcb⟩ := hcut
        have CAX : Hid _ := hcb
        clear hcb
        have CA3 := CAX.out
        have hpc : wc.cell? ⟨p, 1, none⟩ = some (.slice (some ⟨b, 0, none⟩) n c) := (CA3.kept.cell (p := ⟨p, 1, none⟩) hpl (fun h => h)).trans c1
        have hpl3 : p < wc.heap.size := Nat.lt_of_lt_of_le hpl CA3.kept.size
        have HRP : Hid _ := replace_any (i := i) (j := i + 1) (Row.kept HRow.out CA3.kept (fun h => h)) CA3.row (by omega) (by omega) (by rw [← EN.out]; omega) (by show 2 ≤ _; omega) (fun h => by omega) (by rw [← EN.out]; exact hn)
        rw [← EN.out, Int.natCast_add, Int.natCast_one] at HRP
        have HK : Hid _ := CA3.kept
        clear CA3
        go_wp2_with fail
        refine Calls.mono HRP.out ?_
        rintro r w4 ⟨v, rfl, hb', c', rfl, hr4, hn4, ks4⟩
        have hp4 : w4.heap[p]? = some (spO N (some ⟨b, 0, none⟩) n c) := (ks4.block _ hpl3 (fun e => HNE.out e.symm)).trans ((HK.out.block _ hpl (fun h => h)).trans (by rw [EN.out]; exact HS.out.obj))
        have hc4 : w4.cell? ⟨p, 1, none⟩ = some (.slice (some ⟨b, 0, none⟩) n c) := (cell_of hp4 1).trans rfl
        have hf4 : w4.frozen? ⟨p, 1, none⟩ = false := frozen_of hp4 1
        have hp4l := lt_of_heap hp4
        have HR4 : Hid _ := hr4
        have HN4 : Hid _ := hn4
        have SK4 : Hid _ := ks4
        clear hr4 hn4 ks4 hp4
        go_wp2_with fail
        go_end0
        refine ⟨rfl, ?_⟩
        rw [HWF.out.2]
        exact Upd.of HS.out HK.out HR4.out HN4.out SK4.out HNE.out (HWF.out.1) (by simp only [List.length_append, List.length_take, List.length_drop, List.length_cons, List.length_nil]; omega)
    · have h2' : decide (xe < he) = false := decide_eq_false h2
      have HWF : Hid _ := HWF0.out [⟨h.f, x.f - h.f⟩] (by rw [rest, if_pos H1N.out, if_neg (by rw [← EX.out, ← EH.out]; exact h2), List.append_nil])
      have CAX : Hid _ := CA2.out
      have CA3 := CAX.out
      have hpc : wc.cell? ⟨p, 1, none⟩ = some (.slice (some ⟨b, 0, none⟩) n c) := (CA3.kept.cell (p := ⟨p, 1, none⟩) hpl (fun h => h)).trans c1
      have hpl3 : p < wc.heap.size := Nat.lt_of_lt_of_le hpl CA3.kept.size
      have HRP : Hid _ := replace_any (i := i) (j := i + 1) (Row.kept HRow.out CA3.kept (fun h => h)) CA3.row (by omega) (by omega) (by rw [← EN.out]; omega) (by show 1 ≤ _; omega) (fun h => by omega) (by rw [← EN.out]; exact hn)
      rw [← EN.out, Int.natCast_add, Int.natCast_one] at HRP
      have HK : Hid _ := CA3.kept
      clear CA3
      go_wp2_with fail
      refine Calls.mono HRP.out ?_
      rintro r w4 ⟨v, rfl, hb', c', rfl, hr4, hn4, ks4⟩
      have hp4 : w4.heap[p]? = some (spO N (some ⟨b, 0, none⟩) n c) := (ks4.block _ hpl3 (fun e => HNE.out e.symm)).trans ((HK.out.block _ hpl (fun h => h)).trans (by rw [EN.out]; exact HS.out.obj))
      have hc4 : w4.cell? ⟨p, 1, none⟩ = some (.slice (some ⟨b, 0, none⟩) n c) := (cell_of hp4 1).trans rfl
      have hf4 : w4.frozen? ⟨p, 1, none⟩ = false := frozen_of hp4 1
      have hp4l := lt_of_heap hp4
      have HR4 : Hid _ := hr4
      have HN4 : Hid _ := hn4
      have SK4 : Hid _ := ks4
      clear hr4 hn4 ks4 hp4
      go_wp2_with fail
      go_end0
      refine ⟨rfl, ?_⟩
      rw [HWF.out.2]
      exact Upd.of HS.out HK.out HR4.out HN4.out SK4.out HNE.out (HWF.out.1) (by simp only [List.length_append, List.length_take, List.length_drop, List.length_cons, List.length_nil]; omega)

theorem cut_any {w : World} {p N : Nat} {L : List Ex} {a : Option Addr} {hb c : Nat} (hS : Sp w p N L a hb c) {i : Nat} {h x : Ex} (hi : L[i]? = some h) (hx : Sm x) (hx1 : 1 ≤ x.c) (hin : inb x h = true) :
    Calls Try.prog 33 #[.pointer (some ⟨p, 0, none⟩), .int .i64 (i : Int), exV x] w fun r w' => r = .returned (.tuple #[]) ∧ Upd w p N hb (L.take i ++ rest h x ++ L.drop (i + 1)) w' := by
  by_cases h1 : h.f < x.f
  · exact cut_yes hS hi hx hx1 hin h1
  · exact cut_no hS hi hx hx1 hin h1
end Go.Proofs.Ytpjkmficpedmcaa
