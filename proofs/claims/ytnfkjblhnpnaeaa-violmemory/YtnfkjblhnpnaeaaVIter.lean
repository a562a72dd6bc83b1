/- What is proved: slices.Values over violations with their numbers yields them one behind the other, slices.Collect lays them into a list of its own; the list lies in memory. -/
import Derived.Test.YtnfkjblhnpnaeaaVTop
import Derived.RangeFuncNested
import Derived.RangeFuncBound
import Derived.RangeFuncCalls
import Derived.RangeFuncLeaves
import Derived.RangeFuncKeeps
import Derived.RangeFuncBox
import Derived.Shelf.Abstract
import Derived.OwnWalkIn
import Derived.TacticsInMore
import Derived.LoopNIn
import Derived.LoopIn
namespace Go.Proofs.Ytnfkjblhnpnaeaa
open Go.RowKit Go.Shelf

attribute [local go_sem] Oper.semAt_some

theorem At.nb {w : World} {b : Nat} {l : List Nb} (h : At nb1 13 w (some ⟨b, 0, none⟩) l) {j : Nat} {x : Nb} (hx : l[j]? = some x) : w.cell? ⟨b, j * 13, none⟩ = some (.int .i64 x.v.kd) ∧ w.cell? ⟨b, j * 13 + 1, none⟩ = some (.int .i64 x.v.tm) ∧ w.cell? ⟨b, j * 13 + 2, none⟩ = some (.int .i64 x.v.tx) ∧ w.cell? ⟨b, j * 13 + 3, none⟩ = some (.int .i64 x.v.op) ∧ w.cell? ⟨b, j * 13 + 4, none⟩ = some (.int .i64 x.v.wi) ∧ w.cell? ⟨b, j * 13 + 5, none⟩ = some (.string x.v.key) ∧ w.cell? ⟨b, j * 13 + 6, none⟩ = some (.bool x.v.wa) ∧ w.cell? ⟨b, j * 13 + 7, none⟩ = some (.string x.v.ex) ∧ w.cell? ⟨b, j * 13 + 8, none⟩ = some (.bool x.v.go) ∧ w.cell? ⟨b, j * 13 + 9, none⟩ = some (.string x.v.ob) ∧ w.cell? ⟨b, j * 13 + 10, none⟩ = some (.int .i64 x.v.fr) ∧ w.cell? ⟨b, j * 13 + 11, none⟩ = some (.int .i64 x.v.tt) ∧ w.cell? ⟨b, j * 13 + 12, none⟩ = some (.int .i64 x.n) := by
  have e : Sort.grow (w.drewN 0) #[] = w := by rw [Sort.grow_empty]; rfl
  obtain ⟨c0, c1, c2, c3, c4, c5, c6, c7, c8, c9, c10, c11, c12⟩ := h.nbg hx
  have d0 := c0 0 #[]; have d1 := c1 0 #[]; have d2 := c2 0 #[]; have d3 := c3 0 #[]; have d4 := c4 0 #[]; have d5 := c5 0 #[]; have d6 := c6 0 #[]; have d7 := c7 0 #[]; have d8 := c8 0 #[]; have d9 := c9 0 #[]; have d10 := c10 0 #[]; have d11 := c11 0 #[]; have d12 := c12 0 #[]
  rw [e] at d0 d1 d2 d3 d4 d5 d6 d7 d8 d9 d10 d11 d12
  exact ⟨d0, d1, d2, d3, d4, d5, d6, d7, d8, d9, d10, d11, d12⟩
theorem cells_kept {W W' : World} {row : Option Nat} {b : Nat} {o : Obj} (h : W.heap[b]? = some o) (ho : o.isCells = true) (hg : W.grownBy W' row) (hr : ∀ r, row = some r → ∃ o : Obj, W.heap[r]? = some o ∧ o.isCells = false) : W'.heap[b]? = some o := by
  refine (hg.block b (lt_of_heap h) fun e => ?_).trans h
  obtain ⟨o', ho', hc⟩ := hr b e.symm
  rw [h] at ho'
  cases ho'
  rw [ho] at hc
  cases hc
theorem take_more {l : List Nb} {k : Nat} {x : Nb} (h : l[k]? = some x) : l.take (k + 1) = l.take k ++ [x] := by rw [List.take_add_one, h]; rfl
set_option maxRecDepth 100000 in
set_option maxHeartbeats 3200000 in
theorem vals1_in (l Bs n₀ cap : Nat) (a : Option Addr) (ha : ∀ ad, a = some ad → ∃ g, ad = ⟨g, 0, none⟩) (xs : List Nb) (hlen : xs.length ≤ 20000) (w0 : World) (hO : At nb1 13 w0 a xs) (hw0 : w0.heap.size ≤ n₀) (J Jx : List Nb → World → Prop) (n : Nat) (hn : 1 ≤ n)
    (hY : ∀ pre x W, J pre W → pre.length < xs.length → YieldAt Fence.wide (n - 1) Try.prog l #[nbV x] W fun e W' =>
      (e = .returned (.bool true) ∧ J (pre ++ [x]) W' ∧ Below n₀ W W') ∨ (e = .returned (.bool false) ∧ Jx (pre ++ [x]) W'))
    (W : World) (hJ : AbidesFrom W.heap.size J) (hW0 : Kept w0 W) (_ : Bs < n₀) (hnW : n₀ ≤ W.heap.size) (hBs : W.cell? ⟨Bs, 0, none⟩ = some (.slice a xs.length cap)) (h0 : J [] W) :
    CallsIn Fence.wide n Try.prog 38 #[.func (.yield l) #[] #[], .pointer (some ⟨Bs, 0, none⟩)] W fun e W' => (∃ v, e = .returned v) ∧
      ((∃ ys, ys = xs ∧ J ys W') ∨ (∃ pre, pre <+: xs ∧ Jx pre W')) := by
  obtain ⟨N, eN⟩ : ∃ N, N = xs.length := ⟨_, rfl⟩
  rw [← eN] at hlen hBs
  have EN : Hid (N = xs.length) := eN
  have HY : Hid _ := hY
  have HJJ : Hid (AbidesFrom W.heap.size J) := hJ
  have HO : Hid (∀ wr, Below n₀ W wr → At nb1 13 wr a xs) := fun wr hb => fun j x hx => by
    obtain ⟨b, o, e, hbl, hc⟩ := hO j x hx
    exact ⟨b, o, e, by have := hb.size; have := hW0.size; omega, fun c v hv => ((hb.cell (p := ⟨b, _, none⟩) (show b < n₀ by omega)).trans (hW0.cell (p := ⟨b, _, none⟩) hbl (fun e => e))).trans (hc c v hv)⟩
  clear eN hY hO hW0 hJ
  refine callsIn_of_wp Try.func38 rfl trivial ?_ rfl
  simp only [Try.ntmps38, List.size_toArray, List.length_cons, List.length_nil, Nat.reduceAdd, Nat.reduceSub, Array.replicate_succ, Array.replicate_zero, List.push_toArray, List.append_toArray, List.nil_append, List.cons_append]
  gi_wp2
  gi_loopw [7] (fun i wr => ∃ k : Nat, i = .int .i64 (k : Int) ∧ k ≤ N ∧ J (xs.take k) wr ∧ Below n₀ W wr)
    (fun i _ => N - (intOf i).toNat)
  case atStart => exact ⟨0, rfl, Nat.zero_le _, h0, Below.refl _ _⟩
  case round =>
    obtain ⟨k, rfl, hk, hJs, hnx⟩ := hrel
    have HJS : Hid (J (xs.take k) wr) := hJs
    have HNX : Hid (Below n₀ W wr) := hnx
    by_cases hkN : k < N
    · have hm2 : (k : Int) < (N : Int) := by omega
      have hk3 : (k : Int) ≤ 20000 := by omega
      obtain ⟨x, hx⟩ : ∃ x, xs[k]? = some x := ⟨_, List.getElem?_eq_getElem (by rw [← show N = _ from EN.out]; exact hkN)⟩
      have hat := HO.out wr hnx
      obtain ⟨b, off, rfl, hb, -⟩ := hat k x hx
      obtain ⟨g, eg⟩ := ha _ rfl
      cases eg
      obtain ⟨c0, c1, c2, c3, c4, c5, c6, c7, c8, c9, c10, c11, c12⟩ := At.nb hat hx
      have hJ2 := HJJ.out (xs.take k) wr (wr.alloc (nbO x)) none hJs (World.grownBy_alloc wr _ none) (fun r e => by cases e)
      obtain ⟨fn, tmps, assign, body, hy, hR⟩ := HY.out _ x _ hJ2 (by rw [List.length_take, ← show N = _ from EN.out]; omega)
      have HX : Hid (xs[k]? = some x) := hx
      have hBA : Hid (Below n₀ W (wr.alloc (nbO x))) := hnx.alloc (Nat.le_trans hnW hnx.size) _
      obtain ⟨⟨kd, tm, tx, op, wit, key, wa, ex, gg, ob, fr, tt⟩, num⟩ := x
      unfold nbV nbO at hy
      unfold nbO at hR hBA
      simp only at hy hR hBA c0 c1 c2 c3 c4 c5 c6 c7 c8 c9 c10 c11 c12
      clear hx hJs hnx hk hat hJ2 ha
      gi_wp2
      refine hR.mono ?_
      rintro e W3 (⟨rfl, hJ3, hk3⟩ | ⟨rfl, hJx3⟩)
      · have HJ3 : Hid _ := hJ3
        have HK3 : Hid _ := hk3
        clear hJ3 hk3 HY
        gi_wp2
        go_roundw
        case rel => exact ⟨k + 1, by simp, by omega, by rw [take_more HX.out]; exact HJ3.out, hBA.out.trans HK3.out⟩
        case measure => simp only [intOf]; omega
      · have HJX : Hid _ := hJx3
        clear hJx3 HY
        gi_wp2
        refine bodyPost_ret (results_none rfl _ _ _) rfl ?_
        exact ⟨⟨_, rfl⟩, .inr ⟨_, by rw [← take_more HX.out]; exact List.take_prefix _ _, HJX.out⟩⟩
    · have hkN2 : k = xs.length := by rw [← show N = _ from EN.out]; omega
      have hm2 : ¬ (k : Int) < (N : Int) := by omega
      have HKN : Hid (k = xs.length) := hkN2
      clear hkN2 hk hJs hnx HY ha
      gi_wp2
      go_end0
      exact ⟨⟨_, rfl⟩, .inl (by have := HJS.out; rwa [show k = _ from HKN.out, List.take_length] at this)⟩
theorem vals_stops (n : Nat) (hn : 1 ≤ n) (Bs n₀ cap : Nat) (a : Option Addr) (ha : ∀ ad, a = some ad → ∃ g, ad = ⟨g, 0, none⟩) (xs : List Nb) (hlen : xs.length ≤ 20000) (w0 w : World) (hO : At nb1 13 w0 a xs) (hw0 : w0.heap.size ≤ n₀) (hk : Kept w0 w) (hBl : Bs < n₀) (hn₀ : n₀ ≤ w.heap.size) (hc : w.cell? ⟨Bs, 0, none⟩ = some (.slice a xs.length cap)) :
    SeqStopsK Fence.wide n Try.prog 38 #[.pointer (some ⟨Bs, 0, none⟩)] (fun x : Nb => #[nbV x]) (Below n₀) (fun ys => ys = xs) (fun pre => pre <+: xs) xs.length w := fun l J Jx W hW hJ _ hY h0 =>
  vals1_in l Bs n₀ cap a ha xs hlen w0 hO hw0 J Jx n hn hY W hJ (Same.trans' hk (Same.of_below hW _)) hBl (Nat.le_trans hn₀ hW.size) ((hW.cell (p := ⟨Bs, 0, none⟩) (show Bs < w.heap.size by omega)).trans hc) h0
set_option maxRecDepth 100000 in
set_option maxHeartbeats 3200000 in
theorem appendSeq18 (w : World) (Bs : Nat) (xs : List Nb) (hlen : xs.length ≤ 20000) (hseq : SeqStopsK Fence.wide 1 Try.prog 38 #[.pointer (some ⟨Bs, 0, none⟩)] (fun x : Nb => #[nbV x]) (Below w.heap.size) (fun ys => ys = xs) (fun pre => pre <+: xs) xs.length w) :
    CallsIn Fence.wide 2 Try.prog 42 #[.slice none 0 0, .func (.func 38) #[] #[.pointer (some ⟨Bs, 0, none⟩)]] w fun e W' => ∃ v, e = .returned v ∧ OwnN w.heap.size W' v xs ∧ Below w.heap.size w W' := by
  obtain ⟨i0, hi, hz0, hz1, hz2⟩ := info_parts Try.infoNumb
  refine callsIn_of_wp_marks Try.func42 rfl trivial ?_ rfl
  simp only [Try.ntmps42, List.size_toArray, List.length_cons, List.length_nil, Nat.reduceAdd, Nat.reduceSub, Array.replicate_succ, Array.replicate_zero, List.push_toArray, List.append_toArray, List.nil_append, List.cons_append]
  gi_wp2
  have bO := Boxed.new w 50 (.slice none 0 0)
  have hB0 : Below w.heap.size w (w.alloc (.cells #[.slice none 0 0] 50)) := (Below.refl _ w).alloc (Nat.le_refl _) _
  refine wpIn_rangeFunc_ownH rfl (by decide) (gf := 38) (lb := #[.pointer (some ⟨Bs, 0, none⟩)]) rfl trivial (enters_of Try.func38 (by kernel_rfl) rfl) hseq (fun h k => belowK_t h k) (belowK_b (by simp)) hB0 (fun _ => rfl)
    (fun pre W => (∃ v, Boxed W w.heap.size 50 v ∧ W.ownsRow w.heap.size 55 13 v pre.length (fl nb1 pre) ∧ True) ∧ Below w.heap.size w W)
    (fun _ _ _ => False)
    (OwnFrom.and (Own.from (holdsRow_own w.heap.size w.heap.size 50 55 13 (fun pre : List Nb => pre.length) (fun pre => fl nb1 pre) (fun _ _ => True)) _) (ownFrom_below (Nat.le_refl _) (by simp)))
    (fun _ _ _ _ _ hs _ _ => hs)
    ⟨⟨_, bO, World.ownsRow_nil _ _ _ _, trivial⟩, hB0⟩
    (fun x a' W => ∃ Bx, w.heap.size < Bx ∧ W.heap[Bx]? = some (nbO x) ∧ a' = { tmps := #[.slice none 0 0, .func (.func 38) #[] #[.pointer (some ⟨Bs, 0, none⟩)], .pointer (some ⟨w.heap.size, 0, none⟩), undef, .slice none 0 0, .pointer (some ⟨Bx, 0, none⟩), .func (.func 38) #[] #[.pointer (some ⟨Bs, 0, none⟩)], nbV x, undef, undef, undef, undef, undef], defers := [] })
    (fun x a' => fun _ W W' row ⟨Bx, q1, q2, q3⟩ hg hr => ⟨Bx, q1, cells_kept q2 rfl hg (fun r e => (hr r e).2), q3⟩) ?assign ?body ?done ?stop
  case assign =>
    rintro l pre x W K ⟨⟨v, hv, hrow, _⟩, hB⟩ hK
    unfold nbV at *
    gi_wp2
    exact hK _ _ ((KeepsOthers.alloc _ _).from _) ((Below.refl _ W).alloc hB.size _) ⟨⟨v, hv.alloc _, hrow.alloc _, trivial⟩, hB.alloc hB.size _⟩ ⟨W.heap.size, hv.lt, heap_new W (nbO x), rfl⟩
  case body =>
    rintro l pre x a' W hl hr ⟨⟨v, hv, hrow, _⟩, hB⟩ ⟨Bx, hBx, hbx, rfl⟩ hlt
    have hc := hv.cell
    obtain ⟨c0, c1, c2, c3, c4, c5, c6, c7, c8, c9, c10, c11, c12⟩ := nb_cells hbx
    have hbxl := lt_of_heap hbx
    have hpl : pre.length + 1 ≤ 20000 := by omega
    have hnew : ∀ j u, (nb1 x)[j]? = some u → (W.alloc (nbO x)).cell? (Addr.add ⟨W.heap.size, 0, none⟩ j) = some u := fun j u hu => by
      rw [Addr.add_lit, cell_of (heap_new W (nbO x)), Nat.zero_add, ← hu]
      simp [nb1]
    have hrow2 : (W.alloc (nbO x)).ownsRow w.heap.size 55 13 v pre.length (fl nb1 pre) := hrow.alloc (nbO x)
    have HR2 : Hid (∀ (v' : Value) (w1 : World), w1.ownsRow w.heap.size 55 13 v' (pre.length + 1) (fl nb1 pre ++ nb1 x) → w1.ownsRow w.heap.size 55 13 v' (pre ++ [x]).length (fl nb1 (pre ++ [x]))) := fun v' w1 h => by rw [List.length_append, fl_append]; exact (by simpa [fl] using h)
    unfold nbO at hnew hrow2
    gi_wp2_with (gi_at_builtin; refine wpListIn_append_own _ rfl _ _ 50 rfl w.heap.size 55 i0 _ 13 128 Try.underlying50 hi hz0 hz1 hz2 rfl (by decide) _ _ _ rfl hrow2 ⟨W.heap.size, 0, none⟩ 1 1 (nb1 x) rfl rfl hnew (fun v hv => ekN.one x v hv) (by unfold maxLen; omega) (by omega) (by have := hB.size; simp; omega) ?_; intro v' w1 hown' hgrow _; obtain ⟨g', cap', rfl⟩ := ownsRow_succ hown'; obtain ⟨hv1, hv2, hr2, hk2, hb2⟩ := hv.appended (by decide) hrow hB.size (Nat.le_refl _) hown' hgrow; have hc1 := hv1.cell; have hf1 := hv1.frozen)
    exact ⟨hk2.from _, hb2, ⟨⟨_, hv2, HR2.out _ _ hr2, trivial⟩, hB.trans hb2⟩⟩
  case done =>
    rintro D ys W hD rfl ⟨⟨v, hv, hrow, _⟩, hB⟩ hK
    have hc := hv.cell
    gi_wp2
    refine ⟨by simp, .inl ⟨_, _, rfl, run_takeDeferred hK, ?_⟩⟩
    exact ⟨_, results_tmp rfl _ _ _, v, rfl, ownsRow_putObj hrow _ hK rfl, hB.trans (belowK_b (w := w) (Nat.le_refl _) W D _ _ (by simp at hD; omega) hK rfl rfl)⟩
  case stop =>
    rintro D c pre W _ _ h _
    exact h.elim
set_option maxRecDepth 100000 in
set_option maxHeartbeats 1600000 in
theorem collect18 (w : World) (Bs : Nat) (xs : List Nb) (hlen : xs.length ≤ 20000) (hseq : SeqStopsK Fence.wide 1 Try.prog 38 #[.pointer (some ⟨Bs, 0, none⟩)] (fun x : Nb => #[nbV x]) (Below w.heap.size) (fun ys => ys = xs) (fun pre => pre <+: xs) xs.length w) :
    Calls Try.prog 36 #[.func (.func 38) #[] #[.pointer (some ⟨Bs, 0, none⟩)]] w fun e W' => ∃ v, e = .returned v ∧ OwnN w.heap.size W' v xs ∧ Kept w W' := by
  have HA : Hid _ := callsIn_wide.1 (appendSeq18 w Bs xs hlen hseq)
  go_enter Try.func36, Try.ntmps36
  go_wp2_with fail
  refine Calls.mono HA.out ?_
  rintro r w1 ⟨v, rfl, o1, b1⟩
  have HO : Hid (OwnN w.heap.size w1 v xs) := o1
  have HB : Hid _ := b1
  rcases o1.2 with ⟨rfl, _⟩ | ⟨g, cap, cur, rfl, -⟩
  all_goals
    clear o1 b1
    go_wp2_with fail
    go_ret
    exact ⟨_, rfl, HO.out, Same.of_below HB.out _⟩
set_option maxRecDepth 100000 in
theorem values18 (a : Option Addr) (len cap : Nat) (w : World) :
    Calls Try.prog 26 #[.slice a len cap] w fun e w' => e = .returned (.func (.func 38) #[] #[.pointer (some ⟨w.heap.size, 0, none⟩)]) ∧ w' = w.alloc (.cells #[.slice a len cap] 50) := by
  go_enter Try.func26, Try.ntmps26
  go_wp2_with fail
  go_ret
  exact ⟨rfl, rfl⟩
end Go.Proofs.Ytnfkjblhnpnaeaa
