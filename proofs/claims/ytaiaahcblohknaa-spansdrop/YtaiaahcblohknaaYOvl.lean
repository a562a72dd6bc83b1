/- What is proved: Overlap gives the spans of a key that overlap, in their order, in a list of its own; the forest lies in memory. -/
import Derived.Test.YtaiaahcblohknaaYOver
import Derived.Test.YtaiaahcblohknaaYRel
namespace Go.Proofs.Ytaiaahcblohknaa
open Go.RowKit Go.Shelf

attribute [local go_sem] Oper.semAt_some

theorem Try.infoSpan : (Try.prog.info? 31).map (fun i => (i.zero, i.size, i.bytes)) = some (some (.agg #[.int .i64 0, .int .i64 0, .int .i64 0]), 3, 24) := by kernel_rfl
def sc1 (x : Sp) : List Value := [.int .i64 x.f, .int .i64 x.t, .int .i64 x.i]
def scs (l : List Sp) : List Value := l.flatMap sc1
theorem length_scs (l : List Sp) : (scs l).length = l.length * 3 := by
  induction l with
  | nil => rfl
  | cons a r ih => simp only [scs, List.flatMap_cons, List.length_append, List.length_cons, sc1, List.length_nil] at *; omega
theorem scs_append (a b : List Sp) : scs (a ++ b) = scs a ++ scs b := by simp [scs]
theorem scs_cons (x : Sp) (l : List Sp) : scs (x :: l) = sc1 x ++ scs l := rfl
theorem scs_get {l : List Sp} {i : Nat} {x : Sp} (h : l[i]? = some x) (j : Nat) (hj : j < 3) : (scs l)[i * 3 + j]? = (sc1 x)[j]? := by
  induction l generalizing i with
  | nil => simp at h
  | cons a l ih =>
    cases i with
    | zero =>
      simp only [List.getElem?_cons_zero, Option.some.injEq] at h
      subst h
      rw [scs_cons, Nat.zero_mul, Nat.zero_add, List.getElem?_append_left (by exact hj)]
    | succ i =>
      simp only [List.getElem?_cons_succ] at h
      rw [scs_cons, List.getElem?_append_right (by show 3 ≤ _; omega), ← ih h]
      congr 1
      show (i + 1) * 3 + j - 3 = _
      omega
/-- A list of spans of one's own. -/
abbrev OwnSp (base : Nat) (w : World) (v : Value) (l : List Sp) : Prop := w.ownsRow base 31 3 v l.length (scs l)
theorem KpN.put {n₀ : Nat} {W : World} {l : Nat} {o o' : Obj} (hn : n₀ ≤ l) (h : W.heap[l]? = some o) (ho : o.isCells = false) : KpN n₀ W (W.putObj l o') :=
  ⟨(Below.refl n₀ W).grown (grownBy_putObj' W l o') (by have := lt_of_heap h; omega) (fun k e => by cases e; exact hn), fun k cur hk => World.putObj_heap_other (fun e => by rw [e, h] at hk; cases hk; cases ho)⟩
theorem cells_kept {W W' : World} {row : Option Nat} {b : Nat} {o : Obj} (h : W.heap[b]? = some o) (ho : o.isCells = true) (hg : W.grownBy W' row) (hr : ∀ r, row = some r → ∃ o : Obj, W.heap[r]? = some o ∧ o.isCells = false) : W'.heap[b]? = some o := by
  refine (hg.block b (lt_of_heap h) fun e => ?_).trans h
  obtain ⟨o', ho', hc⟩ := hr b e.symm
  rw [h] at ho'
  cases ho'
  rw [ho] at hc
  cases hc
set_option maxRecDepth 100000 in
set_option maxHeartbeats 3200000 in
theorem appendSeq14 (w : World) (n₀ : Nat) (hn : n₀ ≤ w.heap.size) (g : Nat) (xs : List Sp) (hlen : xs.length ≤ 3500000000000) (hseq : SeqStopsK Fence.wide 1 Try.prog 37 (lb4 g) (fun x : Sp => #[spV x]) (KpN n₀) (fun ys => ys = xs) (fun pre => pre <+: xs) xs.length w) :
    CallsIn Fence.wide 2 Try.prog 36 #[.slice none 0 0, .func (.func 37) #[] (lb4 g)] w fun e W' => ∃ v, e = .returned v ∧ OwnSp w.heap.size W' v xs ∧ Below w.heap.size w W' := by
  obtain ⟨i0, hi, hz0, hz1, hz2⟩ := info_parts Try.infoSpan
  refine callsIn_of_wp_marks Try.func36 rfl trivial ?_ rfl
  simp only [Try.ntmps36, List.size_toArray, List.length_cons, List.length_nil, Nat.reduceAdd, Nat.reduceSub, Array.replicate_succ, Array.replicate_zero, List.push_toArray, List.append_toArray, List.nil_append, List.cons_append]
  gi_wp2
  have bO := Boxed.new w 36 (.slice none 0 0)
  have hB0 : Below w.heap.size w (w.alloc (.cells #[.slice none 0 0] 36)) := (Below.refl _ w).alloc (Nat.le_refl _) _
  refine wpIn_rangeFunc_ownH rfl (by decide) (gf := 37) (lb := lb4 g) rfl trivial (enters_of Try.func37 (by kernel_rfl) rfl) hseq KpN.trans (fun W l o o' hl h ho _ => KpN.put (Nat.le_trans (Nat.le_trans hn hB0.size) hl) h ho) hB0 (fun _ => rfl)
    (fun pre W => (∃ v, Boxed W w.heap.size 36 v ∧ W.ownsRow w.heap.size 31 3 v pre.length (scs pre) ∧ True) ∧ Below w.heap.size w W)
    (fun _ _ _ => False)
    (OwnFrom.and (Own.from (holdsRow_own w.heap.size w.heap.size 36 31 3 (fun pre : List Sp => pre.length) (fun pre => scs pre) (fun _ _ => True)) _) (ownFrom_below (Nat.le_refl _) (by simp)))
    (fun _ _ _ _ _ hs _ _ => hs)
    ⟨⟨_, bO, World.ownsRow_nil _ _ _ _, trivial⟩, hB0⟩
    (fun x a' W => ∃ Bx, w.heap.size < Bx ∧ W.heap[Bx]? = some (spO x) ∧ a' = { tmps := #[.slice none 0 0, .func (.func 37) #[] (lb4 g), .pointer (some ⟨w.heap.size, 0, none⟩), undef, .slice none 0 0, .pointer (some ⟨Bx, 0, none⟩), .func (.func 37) #[] (lb4 g), spV x, undef, undef, undef, undef, undef], defers := [] })
    (fun x a' => fun _ W W' row ⟨Bx, q1, q2, q3⟩ hg hr => ⟨Bx, q1, cells_kept q2 rfl hg (fun r e => (hr r e).2), q3⟩) ?assign ?body ?done ?stop
  case assign =>
    rintro l pre x W K ⟨⟨v, hv, hrow, _⟩, hB⟩ hK
    gi_wp2
    exact hK _ _ ((KeepsOthers.alloc _ _).from _) ((KpN.refl _ W).alloc (Nat.le_trans hn hB.size) _) ⟨⟨v, hv.alloc _, hrow.alloc _, trivial⟩, hB.alloc hB.size _⟩ ⟨W.heap.size, hv.lt, heap_new W (spO x), rfl⟩
  case body =>
    rintro l pre x a' W hl hr ⟨⟨v, hv, hrow, _⟩, hB⟩ ⟨Bx, hBx, hbx, rfl⟩ hlt
    have hc := hv.cell
    obtain ⟨x0, x1, x2⟩ := sp_cells hbx
    have hbxl := lt_of_heap hbx
    have hpl : pre.length + 1 ≤ 3500000000000 := by omega
    have hnew : ∀ j u, (sc1 x)[j]? = some u → (W.alloc (spO x)).cell? (Addr.add ⟨W.heap.size, 0, none⟩ j) = some u := fun j u hu => by
      rw [Addr.add_lit, cell_of (heap_new W (spO x)), Nat.zero_add, ← hu]
      simp [sc1]
    gi_wp2_with (gi_at_builtin; refine wpListIn_append_own _ rfl _ _ 36 rfl w.heap.size 31 i0 (.agg #[.int .i64 0, .int .i64 0, .int .i64 0]) 3 24 Try.underlying36 hi hz0 hz1 hz2 rfl (by decide) _ _ _ rfl (hrow.alloc (spO x)) ⟨W.heap.size, 0, none⟩ 1 1 (sc1 x) rfl rfl hnew (by simp [sc1, Value.oneCell']) (by unfold maxLen; omega) (by omega) (by have := hB.size; simp; omega) ?_; intro v' w1 hown' hgrow _; obtain ⟨g', cap', rfl⟩ := ownsRow_succ hown'; obtain ⟨hv1, hv2, hr2, hk2, hb2⟩ := hv.appended (by decide) hrow hB.size (Nat.le_refl _) hown' hgrow; have hc1 := hv1.cell; have hf1 := hv1.frozen)
    have hgrow2 : (W.alloc (spO x)).grownBy w1 v.ownBlock := hgrow
    have kpn : KpN n₀ W (w1.setCell ⟨w.heap.size, 0, none⟩ (.slice (some ⟨g', 0, none⟩) (pre.length + 1) cap')) := ⟨hb2.mono hn, fun k cur hk => by
      have n1 : some k ≠ v.ownBlock := fun e => by
        rcases hrow.2 with ⟨rfl, _⟩ | ⟨q, cp, cr, rfl, _, hq, _⟩
        · simp [Value.ownBlock] at e
        · simp only [Value.ownBlock, Option.some.injEq] at e
          rw [e, hq] at hk
          simp at hk
      have n2 : k ≠ w.heap.size := fun e => by
        rw [e, show W.heap[w.heap.size]? = _ from hv] at hk
        simp at hk
      rw [Below.heap_setCell _ _ _ _ n2, hgrow2.block k (by rw [World.size_alloc]; exact Nat.lt_succ_of_lt (lt_of_heap hk)) n1]
      exact heap_old W _ (lt_of_heap hk)⟩
    exact ⟨hk2.from _, kpn, ⟨⟨_, hv2, by rw [List.length_append, scs_append]; exact hr2, trivial⟩, hB.trans hb2⟩⟩
  case done =>
    rintro D ys W hD rfl ⟨⟨v, hv, hrow, _⟩, hB⟩ hK
    have hc := hv.cell
    gi_wp2
    refine ⟨by simp, .inl ⟨_, _, rfl, run_takeDeferred hK, ?_⟩⟩
    exact ⟨_, results_tmp rfl _ _ _, v, rfl, ownsRow_putObj hrow _ hK rfl, hB.trans (belowK_b (w := w) (Nat.le_refl _) W D _ _ (by simp at hD; omega) hK rfl rfl)⟩
  case stop =>
    rintro D c pre W _ _ h _
    exact h.elim
set_option maxRecDepth 100000 in
set_option maxHeartbeats 1600000 in
theorem collect14 (w : World) (n₀ : Nat) (hn : n₀ ≤ w.heap.size) (g : Nat) (xs : List Sp) (hlen : xs.length ≤ 3500000000000) (hseq : SeqStopsK Fence.wide 1 Try.prog 37 (lb4 g) (fun x : Sp => #[spV x]) (KpN n₀) (fun ys => ys = xs) (fun pre => pre <+: xs) xs.length w) :
    Calls Try.prog 25 #[.func (.func 37) #[] (lb4 g)] w fun e W' => ∃ v, e = .returned v ∧ OwnSp w.heap.size W' v xs ∧ Kept w W' := by
  have HA : Hid _ := callsIn_wide.1 (appendSeq14 w n₀ hn g xs hlen hseq)
  go_enter Try.func25, Try.ntmps25
  go_wp2_with fail
  refine Calls.mono HA.out ?_
  rintro r w1 ⟨v, rfl, o1, b1⟩
  have HO : Hid (OwnSp w.heap.size w1 v xs) := o1
  have HB : Hid _ := b1
  rcases o1.2 with ⟨rfl, _⟩ | ⟨g, cap, cur, rfl, -⟩
  all_goals
    clear o1 b1
    go_wp2_with fail
    go_ret
    exact ⟨_, rfl, HO.out, Same.of_below HB.out _⟩
set_option maxRecDepth 100000 in
set_option maxHeartbeats 1600000 in
theorem overlap14 {F : Nat → Prop} {w : World} {fb : Nat} {A : List Ks} {bd : Nat} (h : Fo F w fb A bd) (k : ByteArray) (hk : k.size ≤ maxLen) (fm tl : Int) (hbd : bd ≤ 3500000000000) :
    Calls Try.prog 9 #[.pointer (some ⟨fb, 0, none⟩), .string k, .int .i64 fm, .int .i64 tl] w fun r w' => ∃ v, r = .returned v ∧ OwnSp w.heap.size w' v (ovK A k fm tl) ∧ Kept w w' := by
  have hle : (ovK A k fm tl).length ≤ bd := by
    obtain ⟨nb, cap, fr, mb, e, N, D, R, FL, h1, h2, h3, h4, h5, h6⟩ := h
    refine Nat.le_trans (List.length_filter_le _ _) ?_
    unfold kf
    rw [List.length_map]
    exact Nat.le_trans (List.length_filter_le _ _) h6
  have HO : Hid _ := overlapping14 w fb k fm tl
  have HC : Hid (∀ w1, Bx4 w1 w.heap.size fb k fm tl → Kept w w1 → Calls Try.prog 25 #[.func (.func 37) #[] (lb4 w.heap.size)] w1 fun e W' => ∃ v, e = .returned v ∧ OwnSp w1.heap.size W' v (ovK A k fm tl) ∧ Kept w1 W') := fun w1 hb k1 =>
    collect14 w1 w.heap.size k1.size w.heap.size _ (by omega) (over_stops (h.on k1) k hk fm tl hb w.heap.size k1.size (fun b hb => h.lt b hb) 1)
  clear h hle
  generalize ovK A k fm tl = xs at *
  go_enter Try.func9, Try.ntmps9
  go_wp2_with fail
  refine Calls.mono HO.out ?_
  rintro r w1 ⟨rfl, hb, k1⟩
  have HC1 : Hid _ := HC.out w1 hb k1
  have K1 : Hid _ := k1
  clear hb k1 HC
  go_wp2_with fail
  refine Calls.mono HC1.out ?_
  rintro r w2 ⟨v, rfl, o2, k2⟩
  have HO2 : Hid (OwnSp w.heap.size w2 v xs) := ⟨o2.1, o2.2.imp id fun ⟨g, cap, cur, h1, h2, h3⟩ => ⟨g, cap, cur, h1, Nat.le_trans K1.out.size h2, h3⟩⟩
  have K2 : Hid _ := Same.trans' K1.out k2
  rcases o2.2 with ⟨rfl, _⟩ | ⟨g, cap, cur, rfl, -⟩
  all_goals
    clear o2 k2
    go_wp2_with fail
    go_ret
    exact ⟨_, rfl, HO2.out, K2.out⟩
end Go.Proofs.Ytaiaahcblohknaa
