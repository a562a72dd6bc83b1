/- What is proved: First gives the overlapping span that ends first; the forest lies in memory. -/
import Derived.Test.YtaiaahcblohknaaYOvl
import Derived.Test.YtaiaahcblohknaaYSoon
namespace Go.Proofs.Ytaiaahcblohknaa
open Go.RowKit Go.Shelf

attribute [local go_sem] Oper.semAt_some

theorem bst_mem {l : List Sp} {y : Sp} (h : bst l = some y) : y ∈ l := by
  induction l generalizing y with
  | nil => cases h
  | cons a r ih =>
    have h' : bet (some a) (bst r) = some y := h
    cases hr : bst r with
    | none => rw [hr] at h'; simp only [bet, Option.some.injEq] at h'; simp [h']
    | some b =>
      rw [hr] at h'
      simp only [bet] at h'
      split at h'
      · simp only [Option.some.injEq] at h'; rw [← h']; simp [ih hr]
      · simp only [Option.some.injEq] at h'; simp [h']
theorem bst_none {l : List Sp} (h : bst l = none) : l = [] := by
  cases l with
  | nil => rfl
  | cons a r =>
    have h' : bet (some a) (bst r) = none := h
    cases hr : bst r with
    | none => rw [hr] at h'; simp [bet] at h'
    | some b => rw [hr] at h'; simp only [bet] at h'; split at h' <;> cases h'
theorem bst_snoc (l : List Sp) (x : Sp) : bst (l ++ [x]) = bet (bst l) (some x) := by rw [bst_append]; rfl
/-- Where one begins behind the best end, no more is wanted. -/
theorem bst_stop {xs pre : List Sp} {x b : Sp} (hs : Srt xs) (hr : ∀ y ∈ xs, y.f ≤ y.t) (hp : (pre ++ [x]) <+: xs) (hb : bst pre = some b) (hx : b.t < x.f) : bst xs = some b := by
  obtain ⟨rest, rfl⟩ := hp
  rw [List.append_assoc] at *
  rw [bst_append, hb]
  cases hy : bst ([x] ++ rest) with
  | none => rfl
  | some y =>
    have hm := bst_mem hy
    have hyr := hr y (List.mem_append_right _ hm)
    have hyx : x.f ≤ y.f := by
      rcases List.mem_cons.1 hm with rfl | hm
      · exact Int.le_refl _
      · have h1 := (List.pairwise_append.1 hs).2.1
        have h2 := (List.pairwise_cons.1 h1).1 y hm
        have := (sl_iff x y).1 h2
        omega
    have hf : fl y b = false := by simp [fl]; omega
    simp only [bet]
    rw [if_neg (by rw [hf]; decide)]
def z3 : Sp := ⟨0, 0, 0⟩
def fst (o : Option Sp) : Sp := o.getD z3
abbrev blO (b : Bool) : Obj := .cells #[.bool b] 4 (0, 0)
/-- Between two rounds. -/
structure FsI (w : World) (s : Nat) (o : Option Sp) (W : World) : Prop where
  r : W.heap[s]? = some (spO z3)
  f : W.heap[s + 1]? = some (spO (fst o))
  b : W.heap[s + 2]? = some (blO o.isSome)
  below : Below s w W
theorem FsI.kept {w : World} {s : Nat} {o : Option Sp} {W W' : World} {row : Option Nat} (h : FsI w s o W) (hs : s ≤ w.heap.size) (hg : W.grownBy W' row) (hr : ∀ r, row = some r → s ≤ r ∧ ∃ o : Obj, W.heap[r]? = some o ∧ o.isCells = false) : FsI w s o W' :=
  ⟨cells_kept h.r rfl hg (fun r e => (hr r e).2), cells_kept h.f rfl hg (fun r e => (hr r e).2), cells_kept h.b rfl hg (fun r e => (hr r e).2), h.below.grown hg (Nat.le_trans hs h.below.size) (fun k e => (hr k e).1)⟩
theorem FsI.cells {w : World} {s : Nat} {o : Option Sp} {W : World} (h : FsI w s o W) : (W.cell? ⟨s + 1, 0, none⟩ = some (.int .i64 (fst o).f) ∧ W.cell? ⟨s + 1, 1, none⟩ = some (.int .i64 (fst o).t) ∧ W.cell? ⟨s + 1, 2, none⟩ = some (.int .i64 (fst o).i)) ∧ W.cell? ⟨s + 2, 0, none⟩ = some (.bool o.isSome) ∧ (∀ i, W.frozen? ⟨s + 1, i, none⟩ = false) ∧ W.frozen? ⟨s + 2, 0, none⟩ = false ∧ s + 2 < W.heap.size :=
  ⟨sp_cells h.f, (cell_of h.b 0).trans rfl, fun i => frozen_of h.f i, frozen_of h.b 0, lt_of_heap h.b⟩
theorem KpN.setAt {n₀ : Nat} {W : World} {b : Nat} {arr : Array Value} {ty : TypeId} (h : W.heap[b]? = some (Obj.cells arr ty (0, 0))) (ht : ty ≠ 74) (hb : n₀ ≤ b) (o : Nat) (u : Value) : KpN n₀ W (W.setCell ⟨b, o, none⟩ u) :=
  ⟨(Below.refl n₀ W).setCell (p := ⟨b, o, none⟩) hb u, fun k cur hk => Below.heap_setCell _ _ _ _ (fun e => by
    rw [show k = b from e, h] at hk
    simp only [Option.some.injEq, Obj.cells.injEq] at hk
    exact ht hk.2.1)⟩
/-- The best is another. -/
theorem FsI.store {w : World} {s : Nat} {o : Option Sp} {W : World} (h : FsI w s o W) (x : Sp) :
    FsI w s (some x) ((((W.setCell ⟨s + 1, 0, none⟩ (.int .i64 x.f)).setCell ⟨s + 1, 1, none⟩ (.int .i64 x.t)).setCell ⟨s + 1, 2, none⟩ (.int .i64 x.i)).setCell ⟨s + 2, 0, none⟩ (.bool true)) ∧
    KpN s W ((((W.setCell ⟨s + 1, 0, none⟩ (.int .i64 x.f)).setCell ⟨s + 1, 1, none⟩ (.int .i64 x.t)).setCell ⟨s + 1, 2, none⟩ (.int .i64 x.i)).setCell ⟨s + 2, 0, none⟩ (.bool true)) ∧
    KeepsOthers W ((((W.setCell ⟨s + 1, 0, none⟩ (.int .i64 x.f)).setCell ⟨s + 1, 1, none⟩ (.int .i64 x.t)).setCell ⟨s + 1, 2, none⟩ (.int .i64 x.i)).setCell ⟨s + 2, 0, none⟩ (.bool true)) := by
  have a0 := setCell_at h.f 0 (.int .i64 x.f)
  have a1 := setCell_at a0 1 (.int .i64 x.t)
  have a2 := put3 h.f (.int .i64 x.f) (.int .i64 x.t) (.int .i64 x.i)
  have b2 : (((W.setCell ⟨s + 1, 0, none⟩ (.int .i64 x.f)).setCell ⟨s + 1, 1, none⟩ (.int .i64 x.t)).setCell ⟨s + 1, 2, none⟩ (.int .i64 x.i)).heap[s + 2]? = some (blO o.isSome) := by
    rw [Below.heap_setCell _ _ _ _ (show s + 2 ≠ s + 1 by omega), Below.heap_setCell _ _ _ _ (show s + 2 ≠ s + 1 by omega), Below.heap_setCell _ _ _ _ (show s + 2 ≠ s + 1 by omega)]
    exact h.b
  have r2 : (((W.setCell ⟨s + 1, 0, none⟩ (.int .i64 x.f)).setCell ⟨s + 1, 1, none⟩ (.int .i64 x.t)).setCell ⟨s + 1, 2, none⟩ (.int .i64 x.i)).heap[s]? = some (spO z3) := by
    rw [Below.heap_setCell _ _ _ _ (show s ≠ s + 1 by omega), Below.heap_setCell _ _ _ _ (show s ≠ s + 1 by omega), Below.heap_setCell _ _ _ _ (show s ≠ s + 1 by omega)]
    exact h.r
  have kp : KpN s W ((((W.setCell ⟨s + 1, 0, none⟩ (.int .i64 x.f)).setCell ⟨s + 1, 1, none⟩ (.int .i64 x.t)).setCell ⟨s + 1, 2, none⟩ (.int .i64 x.i)).setCell ⟨s + 2, 0, none⟩ (.bool true)) :=
    (((KpN.setAt h.f (by decide) (by omega) 0 _).trans (KpN.setAt a0 (by decide) (by omega) 1 _)).trans (KpN.setAt a1 (by decide) (by omega) 2 _)).trans (KpN.setAt b2 (by decide) (by omega) 0 _)
  refine ⟨⟨?_, ?_, ?_, h.below.trans kp.below⟩, kp, (((KeepsOthers.setCell _ _ _).trans (KeepsOthers.setCell _ _ _)).trans (KeepsOthers.setCell _ _ _)).trans (KeepsOthers.setCell _ _ _)⟩
  · rw [Below.heap_setCell _ _ _ _ (show s ≠ s + 2 by omega)]; exact r2
  · rw [Below.heap_setCell _ _ _ _ (show s + 1 ≠ s + 2 by omega)]; exact a2
  · have := setCell_at b2 0 (.bool true)
    simpa using this
theorem results_ct {fn : Func} {a t u : Nat} {P : Program} {w : World} {tmps : Array Value} {ad : Addr} {v : Value} (h : fn.results = #[.cell a t, .tmp u]) (ha : tmps.getD a undef = .pointer (some ad)) (hv : (loadVar t ad).run P w = .ok v w) : (results fn tmps).run P w = .ok (.tuple #[v, tmps.getD u undef]) w := by
  have ha' : tmps[a]?.getD undef = .pointer (some ad) := by simpa using ha
  simp [results, h, ha', asAddr, hv]
/-- The answer is laid. -/
theorem first_end {w W : World} {o : Option Sp} {D : Nat} (h : FsI w w.heap.size o W) (hK : W.heap[D]? = some (.deferred (some []))) (hD : w.heap.size + 3 ≤ D) (o' : Obj) :
    (World.drew (((W.setCell ⟨w.heap.size, 0, none⟩ (.int .i64 (fst o).f)).setCell ⟨w.heap.size, 1, none⟩ (.int .i64 (fst o).t)).setCell ⟨w.heap.size, 2, none⟩ (.int .i64 (fst o).i))).heap[D]? = some (.deferred (some [])) ∧
    ((World.drew (((W.setCell ⟨w.heap.size, 0, none⟩ (.int .i64 (fst o).f)).setCell ⟨w.heap.size, 1, none⟩ (.int .i64 (fst o).t)).setCell ⟨w.heap.size, 2, none⟩ (.int .i64 (fst o).i))).putObj D o').heap[w.heap.size]? = some (spO (fst o)) ∧
    Kept w ((World.drew (((W.setCell ⟨w.heap.size, 0, none⟩ (.int .i64 (fst o).f)).setCell ⟨w.heap.size, 1, none⟩ (.int .i64 (fst o).t)).setCell ⟨w.heap.size, 2, none⟩ (.int .i64 (fst o).i))).putObj D o') := by
  have hx := put3 h.r (.int .i64 (fst o).f) (.int .i64 (fst o).t) (.int .i64 (fst o).i)
  have hd : (((W.setCell ⟨w.heap.size, 0, none⟩ (.int .i64 (fst o).f)).setCell ⟨w.heap.size, 1, none⟩ (.int .i64 (fst o).t)).setCell ⟨w.heap.size, 2, none⟩ (.int .i64 (fst o).i)).heap[D]? = some (.deferred (some [])) := by
    rw [Below.heap_setCell _ _ _ _ (show D ≠ w.heap.size by omega), Below.heap_setCell _ _ _ _ (show D ≠ w.heap.size by omega), Below.heap_setCell _ _ _ _ (show D ≠ w.heap.size by omega)]
    exact hK
  have kw : Kept w (World.drew (((W.setCell ⟨w.heap.size, 0, none⟩ (.int .i64 (fst o).f)).setCell ⟨w.heap.size, 1, none⟩ (.int .i64 (fst o).t)).setCell ⟨w.heap.size, 2, none⟩ (.int .i64 (fst o).i))) := Same.drew (put3_same (Same.of_below h.below _) (.inl (Nat.le_refl _)) _ _ _)
  refine ⟨hd, ?_, ?_⟩
  · exact (World.putObj_heap_other (by omega)).trans hx
  · have hg := Same.of_grown (S := fun k => k = D) (grownBy_putObj' (World.drew (((W.setCell ⟨w.heap.size, 0, none⟩ (.int .i64 (fst o).f)).setCell ⟨w.heap.size, 1, none⟩ (.int .i64 (fst o).t)).setCell ⟨w.heap.size, 2, none⟩ (.int .i64 (fst o).i))) D o') (fun k e => by cases e; rfl)
    exact kw.trans hg (fun i hi e => by omega)
theorem KeepsOthers.of_kept {A B : World} (h : Kept A B) : KeepsOthers A B := ⟨h.size, fun k _ hk _ => (h.block k (lt_of_heap hk) (fun e => e)).trans hk⟩
theorem FsI.on {w : World} {s : Nat} {o : Option Sp} {W W' : World} (h : FsI w s o W) (hs : s ≤ w.heap.size) (k : Kept W W') : FsI w s o W' :=
  ⟨(k.block _ (lt_of_heap h.r) (fun e => e)).trans h.r, (k.block _ (lt_of_heap h.f) (fun e => e)).trans h.f, (k.block _ (lt_of_heap h.b) (fun e => e)).trans h.b, h.below.trans (k.below (Nat.le_trans hs h.below.size) (fun _ x => x.elim))⟩
set_option maxRecDepth 100000 in
set_option maxHeartbeats 3200000 in
theorem first_in (w : World) (fb : Nat) (k : ByteArray) (fm tl : Int) (xs : List Sp) (hS : Srt xs) (hR : ∀ y ∈ xs, y.f ≤ y.t)
    (hseq : ∀ w1, Bx4 w1 (w.heap.size + 3) fb k fm tl → Below w.heap.size w w1 → SeqStopsK Fence.wide 1 Try.prog 37 (lb4 (w.heap.size + 3)) (fun x : Sp => #[spV x]) (KpN w.heap.size) (fun ys => ys = xs) (fun pre => pre <+: xs) xs.length w1) :
    CallsIn Fence.wide 2 Try.prog 15 #[.pointer (some ⟨fb, 0, none⟩), .string k, .int .i64 fm, .int .i64 tl] w fun r w' => r = .returned (.tuple #[spV (fst (bst xs)), .bool (bst xs).isSome]) ∧ Kept w w' := by
  have hO := (callsIn_wide (n := 1)).2 (overlapping14 (((w.alloc (spO z3)).alloc (spO z3)).alloc (blO false)) fb k fm tl)
  have q1 := two_boxes w (spO z3) (spO z3)
  have q2 := heap_new ((w.alloc (spO z3)).alloc (spO z3)) (blO false)
  have e2 : ((w.alloc (spO z3)).alloc (spO z3)).heap.size = w.heap.size + 2 := by rw [World.size_alloc, World.size_alloc]
  have e3 : (((w.alloc (spO z3)).alloc (spO z3)).alloc (blO false)).heap.size = w.heap.size + 3 := by rw [World.size_alloc, e2]
  rw [e2] at q2
  rw [e3] at hO
  have k3 : Kept ((w.alloc (spO z3)).alloc (spO z3)) (((w.alloc (spO z3)).alloc (spO z3)).alloc (blO false)) := (Same.refl _ _).alloc _
  have hI0 : FsI w w.heap.size none (((w.alloc (spO z3)).alloc (spO z3)).alloc (blO false)) := ⟨(k3.block _ (by rw [e2]; omega) (fun e => e)).trans q1.1, (k3.block _ (by rw [e2]; omega) (fun e => e)).trans q1.2.1, q2, (((Below.refl _ w).alloc (Nat.le_refl _) _).alloc (by simp) _).alloc (by rw [e2]; omega) _⟩
  refine callsIn_of_wp_marks Try.func15 rfl trivial ?_ rfl
  simp only [Try.ntmps15, List.size_toArray, List.length_cons, List.length_nil, Nat.reduceAdd, Nat.reduceSub, Array.replicate_succ, Array.replicate_zero, List.push_toArray, List.append_toArray, List.nil_append, List.cons_append]
  gi_wp2_with ((try refine ⟨trivial, ?_⟩); (try refine ⟨fun _ => by decide, ?_⟩); gi_at_call 26; refine hO.mono ?_; rintro e w1 ⟨rfl, hb1, k1⟩)
  have hI1 : FsI w w.heap.size none w1 := ⟨(k1.block _ (by rw [e3]; omega) (fun e => e)).trans hI0.r, (k1.block _ (by rw [e3]; omega) (fun e => e)).trans hI0.f, (k1.block _ (by rw [e3]; omega) (fun e => e)).trans hI0.b, hI0.below.trans (k1.below (by rw [e3]; omega) (fun _ x => x.elim))⟩
  have hs1 : w.heap.size + 3 ≤ w1.heap.size := by have := k1.size; rw [e3] at this; exact this
  have hsq := hseq w1 hb1 hI1.below
  clear hO hseq hI0 k3 q1 q2
  refine wpIn_rangeFunc_ownH rfl (by decide) (gf := 37) (lb := lb4 (w.heap.size + 3)) rfl trivial (enters_of Try.func37 (by kernel_rfl) rfl) hsq KpN.trans (fun W l o o' hl h ho _ => KpN.put (by omega) h ho) (Below.refl _ _) (fun _ => rfl)
    (fun pre W => FsI w w.heap.size (bst pre) W)
    (fun c pre W => c = .exit 0 ∧ ∃ pre' x b, pre = pre' ++ [x] ∧ bst pre' = some b ∧ b.t < x.f ∧ FsI w w.heap.size (some b) W)
    (fun pre W W' row h hg hr => FsI.kept h (Nat.le_refl _) hg fun r e => ⟨by have := (hr r e).1; omega, (hr r e).2⟩)
    (fun c pre W W' row h hg hr => ⟨h.1, by obtain ⟨pre', x, b, p1, p2, p3, p4⟩ := h.2; exact ⟨pre', x, b, p1, p2, p3, FsI.kept p4 (Nat.le_refl _) hg fun r e => ⟨by have := (hr r e).1; omega, (hr r e).2⟩⟩⟩)
    hI1
    (fun x a' W => ∃ Bx, w.heap.size + 2 < Bx ∧ W.heap[Bx]? = some (spO x) ∧ a' = { tmps := #[.pointer (some ⟨fb, 0, none⟩), .string k, .int .i64 fm, .int .i64 tl, undef, undef, undef, undef, .pointer (some ⟨w.heap.size, 0, none⟩), .bool false, .pointer (some ⟨w.heap.size + 1, 0, none⟩), .pointer (some ⟨w.heap.size + 2, 0, none⟩), .pointer (some ⟨Bx, 0, none⟩), spV z3, .pointer (some ⟨fb, 0, none⟩), .string k, .int .i64 fm, .int .i64 tl, .func (.func 37) #[] (lb4 (w.heap.size + 3)), spV x, undef, undef, undef, undef, undef, undef, undef, undef, undef, undef, undef, undef, undef, undef, undef, undef, undef, undef], defers := [] })
    (fun x a' => fun _ W W' row ⟨Bx, q1, q2, q3⟩ hg hr => ⟨Bx, q1, cells_kept q2 rfl hg (fun r e => (hr r e).2), q3⟩) ?assign ?body ?done ?stop
  case assign =>
    rintro l pre x W K hI hK
    gi_wp2
    exact hK _ _ ((KeepsOthers.alloc _ _).from _) ((KpN.refl _ W).alloc hI.below.size _) (FsI.kept hI (Nat.le_refl _) (World.grownBy_alloc W _ none) (fun r e => by cases e)) ⟨W.heap.size, hI.cells.2.2.2.2, heap_new W (spO x), rfl⟩
  case body =>
    rintro l pre x a' W hl hr hI ⟨Bx, hBx, hbx, rfl⟩ hlt
    obtain ⟨⟨c0, c1, c2⟩, cb, cf, cg, cl⟩ := hI.cells
    obtain ⟨x0, x1, x2⟩ := sp_cells hbx
    have hbl := lt_of_heap hbx
    have nb1 : ¬ Bx = w.heap.size + 1 := by omega
    have nb2 : ¬ Bx = w.heap.size + 2 := by omega
    have nb3 : ¬ w.heap.size + 1 = Bx := by omega
    have nb4 : ¬ w.heap.size + 2 = Bx := by omega
    cases ho : bst pre with
    | none =>
      rw [ho] at hI c0 c1 c2 cb
      obtain ⟨g1, g2, g3⟩ := hI.store x
      have eb : bst (pre ++ [x]) = some x := by rw [bst_snoc, ho]; rfl
      have G : Hid (KeepsOthers W _ ∧ KpN w.heap.size W _ ∧ FsI w w.heap.size (bst (pre ++ [x])) _) := ⟨g3, g2, by rw [eb]; exact g1⟩
      clear g1 g2 g3 hI eb
      simp only [Option.isSome_none] at cb
      gi_wp2
      refine ⟨trivial, ?_⟩
      gi_wp2
      exact ⟨G.out.1.from _, G.out.2.1, G.out.2.2⟩
    | some b =>
      rw [ho] at hI c0 c1 c2 cb
      simp only [Option.isSome_some] at cb
      have eb : bst (pre ++ [x]) = if fl x b = true then some x else some b := by rw [bst_snoc, ho]; rfl
      have ef : fst (some b) = b := rfl
      rw [ef] at c0 c1 c2
      by_cases hbr : b.t < x.f
      · have HI : Hid _ := hI
        clear hI eb
        gi_wp2
        exact ⟨(KeepsOthers.refl _).from _, rfl, pre, x, b, rfl, ho, hbr, HI.out⟩
      · have hE : ∀ W1, CallsIn (Fence.wide.inRound l) 0 Try.prog 34 #[.agg #[.int .i64 x.f, .int .i64 x.t, .int .i64 x.i], .agg #[.int .i64 b.f, .int .i64 b.t, .int .i64 b.i]] W1 fun r w' => r = .returned (.bool (fl x b)) ∧ Kept W1 w' := fun W1 => CallsIn.inRound l (callsIn_wide.2 (ends14 x b W1))
        cases hfl : fl x b
        all_goals
          rw [hfl] at hE eb
          simp only [Bool.false_eq_true, if_false, if_true] at eb
          have HI : Hid _ := hI
          have EB : Hid _ := eb
          have HBX : Hid _ := hbx
          clear hI eb hfl
          gi_wp2
          refine ⟨trivial, rfl, ?_⟩
          refine (hE _).mono ?_
          clear hE
          rintro e W2 ⟨rfl, k2⟩
          obtain ⟨y0, y1, y2⟩ := sp_cells ((k2.block Bx hbl (fun e => e)).trans HBX.out)
          have hI2 : FsI w w.heap.size (some b) W2 := FsI.on HI.out (Nat.le_refl _) k2
          obtain ⟨⟨d0, d1, d2⟩, db, df, dg, dl⟩ := hI2.cells
          have HI2 : Hid _ := hI2
          have K2 : Hid _ := k2
          have kz : w.heap.size ≤ W.heap.size := by omega
          clear hI2 k2 c0 c1 c2 cb cf cg x0 x1 x2
        · gi_wp2
          exact ⟨(KeepsOthers.of_kept K2.out).from _, KpN.of_kept kz K2.out, (by show FsI w w.heap.size (bst (pre ++ [x])) W2; rw [show bst (pre ++ [x]) = some b from EB.out]; exact HI2.out)⟩
        · obtain ⟨g1, g2, g3⟩ := FsI.store HI2.out x
          have G : Hid (KeepsOthers W2 _ ∧ KpN w.heap.size W2 _ ∧ FsI w w.heap.size (bst (pre ++ [x])) _) := ⟨g3, g2, by rw [show bst (pre ++ [x]) = some x from EB.out]; exact g1⟩
          clear g1 g2 g3
          gi_wp2
          exact ⟨((KeepsOthers.of_kept K2.out).trans G.out.1).from _, (KpN.of_kept kz K2.out).trans G.out.2.1, G.out.2.2⟩
  case done =>
    rintro D ys W hD rfl hI hK
    obtain ⟨⟨d0, d1, d2⟩, db, df, dg, dl⟩ := hI.cells
    obtain ⟨r0, r1, r2⟩ := sp_cells hI.r
    have rf := fun i => frozen_of hI.r i
    have HFE : Hid _ := first_end hI hK (by omega) (.deferred none)
    generalize hoo : bst ys = oo at *
    have HOO : Hid _ := hoo
    clear hI hsq hoo
    gi_wp2
    refine wpIn_wide.2 ?_
    go_region
    all_goals
      gi_wp2
      refine ⟨by simp, .inl ⟨_, _, rfl, run_takeDeferred HFE.out.1, ?_⟩⟩
      exact ⟨_, results_ct (a := 8) (t := 31) (u := 9) rfl rfl (loadVar_sp HFE.out.2.1), (by rw [show bst _ = oo from HOO.out]; rfl), HFE.out.2.2⟩
  case stop =>
    rintro D c pre W hD hpre ⟨rfl, pre', x, b, rfl, p2, p3, p4⟩ hK
    have hq := bst_stop hS hR hpre p2 p3
    obtain ⟨⟨d0, d1, d2⟩, db, df, dg, dl⟩ := p4.cells
    obtain ⟨r0, r1, r2⟩ := sp_cells p4.r
    have rf := fun i => frozen_of p4.r i
    have HFE : Hid _ := first_end p4 hK (by omega) (.deferred none)
    generalize some b = oo at *
    have HOO : Hid _ := hq
    clear p4 hsq p2 hq
    gi_wp2
    refine wpIn_wide.2 ?_
    go_region
    all_goals
      gi_wp2
      refine ⟨by simp, .inl ⟨_, _, rfl, run_takeDeferred HFE.out.1, ?_⟩⟩
      exact ⟨_, results_ct (a := 8) (t := 31) (u := 9) rfl rfl (loadVar_sp HFE.out.2.1), (by rw [show bst _ = oo from HOO.out]; rfl), HFE.out.2.2⟩
theorem first14 {F : Nat → Prop} {w : World} {fb : Nat} {A : List Ks} {bd : Nat} (h : Fo F w fb A bd) (k : ByteArray) (hk : k.size ≤ maxLen) (fm tl : Int) :
    Calls Try.prog 15 #[.pointer (some ⟨fb, 0, none⟩), .string k, .int .i64 fm, .int .i64 tl] w fun r w' => r = .returned (.tuple #[spV (fst (bst (ovK A k fm tl))), .bool (bst (ovK A k fm tl)).isSome]) ∧ Kept w w' := by
  have hh := h
  obtain ⟨nb, cap, fr, mb, e, N, D, R, FL, h1, h2, h3, h4, h5, h6⟩ := hh
  refine callsIn_wide.1 (first_in w fb k fm tl (ovK A k fm tl) ((h2.srt k).sublist List.filter_sublist) (fun y hy => ?_) (fun w1 hb hB => ?_))
  · have hy1 := (List.mem_filter.1 hy).1
    obtain ⟨e, he, rfl⟩ := kf_mem hy1
    have := h4 e he
    simp [rightS] at this
    omega
  · exact over_stops (h.on (Same.of_below hB _)) k hk fm tl hb w.heap.size hB.size (fun b hb => h.lt b hb) 1
end Go.Proofs.Ytaiaahcblohknaa
