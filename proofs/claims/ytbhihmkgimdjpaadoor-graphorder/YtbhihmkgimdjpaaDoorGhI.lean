/- What is proved: Edges gives all edges, in their order, in a list of its own, in whatever order the map's keys come; the graph lies in memory. -/
import Derived.Test.YtbhihmkgimdjpaaDoorGhA
import Derived.Test.YtbhihmkgimdjpaaDoorGhC
import Derived.Test.YtbhihmkgimdjpaaDoorGhL
import Derived.Test.YtbhihmkgimdjpaaDoorVSrt
import Derived.RangeFuncNested
import Derived.RangeFuncBound
import Derived.RangeFuncCalls
import Derived.RangeFuncLeaves
import Derived.RangeFuncKeeps
import Derived.RangeFuncBox
import Derived.Shelf.Abstract
import Derived.Sort.MapsRangeIn
import Derived.OwnWalkIn
import Derived.TacticsInMore
import Derived.LoopNIn
import Derived.LoopIn
namespace Go.Proofs.YtbhihmkgimdjpaaDoor
open Go.RowKit Go.Shelf

attribute [local go_sem] Oper.semAt_some

/-- The keys that have come. -/
structure Cl (E : List Eg) (left : Lit → Bool) (ss : List Eg) : Prop where
  nd : ss.Nodup
  mem : ∀ x, x ∈ ss ↔ x ∈ E ∧ left (kE x) = false
theorem same_key {E : List Eg} (hE : ∀ e ∈ E, Eok e) {x e : Eg} {kl : Lit} (hk : keyOf Tryd.prog 33 (egV x) = some kl) (he : e ∈ E) : (kE e).sameKey kl = decide (e = x) := by
  by_cases e2 : e = x
  · subst e2
    rw [kE_of hk, decide_eq_true rfl]
    exact WideAt.sameKey_self (Tryd.keyedE.key hk)
  · rw [decide_eq_false e2]
    cases h9 : (kE e).sameKey kl
    · rfl
    · exact absurd (key_inj (by rw [kE_some (hE e he), WideAt.sameKey_eq h9]) hk) e2
theorem Cl.step {E : List Eg} {left : Lit → Bool} {ss : List Eg} (h : Cl E left ss) (hE : ∀ e ∈ E, Eok e) {x : Eg} {kl : Lit} (hk : keyOf Tryd.prog 33 (egV x) = some kl) (hx : x ∈ E) (hl : left kl = true) : Cl E (fun z => left z && !z.sameKey kl) (ss ++ [x]) := by
  have hkx : kE x = kl := kE_of hk
  refine ⟨?_, fun y => ?_⟩
  · rw [List.nodup_append]
    refine ⟨h.nd, by simp, fun a ha b hb e => ?_⟩
    simp only [List.mem_singleton] at hb
    have h9 := ((h.mem a).1 ha).2
    rw [e, hb, hkx, hl] at h9
    cases h9
  · rw [List.mem_append, h.mem, List.mem_singleton]
    by_cases hy : y ∈ E
    · rw [same_key hE hk hy]
      by_cases e : y = x
      · simp [e, hx]
      · simp [e, hy]
    · simp [hy]
      exact fun e => hy (e ▸ hx)
theorem Cl.all {E : List Eg} {left : Lit → Bool} {ss : List Eg} (h : Cl E left ss) (hn : E.Nodup) (hl : ∀ k, left k = false) : ss.Perm E := by
  refine (List.perm_ext_iff_of_nodup h.nd hn).2 fun x => ?_
  rw [h.mem, hl]
  simp
theorem cells_kept {W W' : World} {row : Option Nat} {b : Nat} {o : Obj} (h : W.heap[b]? = some o) (ho : o.isCells = true) (hg : W.grownBy W' row) (hr : ∀ r, row = some r → ∃ o : Obj, W.heap[r]? = some o ∧ o.isCells = false) : W'.heap[b]? = some o := by
  refine (hg.block b (lt_of_heap h) fun e => ?_).trans h
  obtain ⟨o', ho', hc⟩ := hr b e.symm
  rw [h] at ho'
  cases ho'
  rw [ho] at hc
  cases hc
theorem walks_of {W W' : World} (h : KeepsOthers W W') : KeepsWalks W W' := ⟨h.size, fun k o ho hw => h.same k o ho (Obj.not_cells_of_walk hw)⟩
set_option maxRecDepth 100000 in
set_option maxHeartbeats 3200000 in
theorem keysE_in (l Bm b : Nat) (E : List Eg) (D : DataW Value) (hK : Kd D E) (hE : ∀ e ∈ E, Eok e) (n : Nat) (hn : 1 ≤ n) (J Jx : List Eg → World → Prop)
    (hY : ∀ pre x W, J pre W → pre.length < E.length → YieldAt Fence.wide (n - 1) Tryd.prog l #[egV x] W fun e W' =>
      (e = .returned (.bool true) ∧ J (pre ++ [x]) W' ∧ KeepsWalks W W') ∨ (e = .returned (.bool false) ∧ Jx (pre ++ [x]) W'))
    (W : World) (hJ : AbidesFrom W.heap.size J) (hm : W.cell? ⟨Bm, 0, none⟩ = some (.map (some b))) (hown : W.ownsMap (H := Value) Tryd.prog 33 unitElem b (Go.Maps.size D) D) (h0 : J [] W) :
    CallsIn Fence.wide n Tryd.prog 46 #[.func (.yield l) #[] #[], .pointer (some ⟨Bm, 0, none⟩)] W fun e W' => (∃ v, e = .returned v) ∧
      ((∃ ss : List Eg, ss.Perm E ∧ J ss W') ∨ (∃ pre : List Eg, True ∧ Jx pre W')) := by
  have HK : Hid (Kd D E) := hK
  have HE : Hid (∀ e ∈ E, Eok e) := hE
  have hsz := hK.size
  clear hK hE
  refine callsIn_of_wp Tryd.func46 rfl trivial ?_ rfl
  simp only [Tryd.ntmps46, List.size_toArray, List.length_cons, List.length_nil, Nat.reduceAdd, Nat.reduceSub, Array.replicate_succ, Array.replicate_zero, List.push_toArray, List.append_toArray, List.nil_append, List.cons_append]
  gi_wp2_with (first
    | (gi_at_range; refine wpListIn_range_own _ rfl _ 58 rfl 33 70 Tryd.keyedE Tryd.underlying58 _ b (Go.Maps.size D) _ rfl hown ?_; intro w0 hrg0 hg0 hs0)
    | gi_in)
  go_frame
  gi_loopw [] (fun wr => ∃ (left : Lit → Bool) (cnt : Nat) (ss : List Eg), wr.ranges Tryd.prog 33 unitElem b W.heap.size (Go.Maps.size D) D left cnt ∧ ss.length + cnt ≤ Go.Maps.size D ∧ Cl E left ss ∧ J ss wr)
    (fun wr => wr.rangeLeft b W.heap.size)
  case atStart =>
    exact ⟨_, _, [], hrg0, by simp, ⟨List.nodup_nil, fun x => by
      constructor
      · intro h; cases h
      · rintro ⟨h1, h2⟩
        rw [HK.out.has x _ (kE_some (HE.out x h1))] at h2
        simp [h1] at h2⟩, hJ [] W w0 none h0 hg0 (fun r e => by cases e)⟩
  case round =>
    obtain ⟨left, cnt, ss, hrg, hcs, hC, hJs⟩ := hrel
    gi_wp2_with (first
      | (gi_at_next; refine wpListIn_next_ranges _ rfl _ rfl 33 Tryd.keyedE unitElem egV (fun _ : Unit => Value.agg #[]) (fun key kl hk => by obtain ⟨x, hx, _⟩ := key_inv hk; exact ⟨x, hx⟩) (fun v y hv => ⟨(), (unitElem_inv hv).1⟩) b W.heap.size (Go.Maps.size D) _ _ _ rfl hrg ?_ ?_)
      | gi_in)
    · intro hc0 hl0
      gi_wp2
      go_end0
      exact ⟨⟨_, rfl⟩, .inl ⟨ss, hC.all HK.out.nodup hl0, hJs⟩⟩
    · intro x kl yd yp w2 cnt2 hkey hlk hv hat hrg2 hlt hg2 hs2 hen
      have hx : x ∈ E := by
        have h9 := HK.out.has x kl hkey
        rw [Go.Maps.has_true_of_atKey hat] at h9
        simpa using h9.symm
      have hJ2 : J ss w2 := hJ ss wr w2 (some W.heap.size) hJs hg2 (fun r e => by cases e; exact ⟨Nat.le_refl _, hrg.iter_walk⟩)
      have hJ3 : J ss (w2.alloc (egO x)) := hJ ss w2 (w2.alloc (egO x)) none hJ2 (World.grownBy_alloc w2 _ none) (fun r e => by cases e)
      obtain ⟨fn, tmps, assign, body, hy, hR⟩ := hY ss x (w2.alloc (egO x)) hJ3 (by omega)
      have HC2 : Hid (Cl E (fun z => left z && !z.sameKey kl) (ss ++ [x])) := hC.step HE.out hkey hx hlk
      have hrg3 := hrg2.alloc (egO x)
      have HRG3 : Hid ((w2.alloc (egO x)).ranges Tryd.prog 33 unitElem b W.heap.size E.length D (fun z => left z && !z.sameKey kl) cnt2) := hrg3
      have HM : Hid (ss.length + cnt ≤ Go.Maps.size D ∧ cnt2 < cnt ∧ wr.rangeLeft b W.heap.size = cnt ∧ Go.Maps.size D = E.length) := ⟨hcs, hlt, hrg.left_eq, hsz⟩
      obtain ⟨xf, xt, xl⟩ := x
      clear hs2 hkey hlk hv hat hrg2 hlt hg2 hx hJ2 hJ3 hrg3 hrg hC hJs hcs
      gi_wp2
      refine hR.mono ?_
      rintro e W3 (⟨rfl, hJ4, hk4⟩ | ⟨rfl, hJx4⟩)
      · gi_wp2
        have hrg4 := HRG3.out.of_walks hk4
        go_roundw
        case rel => exact ⟨_, cnt2, _, by rw [HM.out.2.2.2]; exact hrg4, by rw [List.length_append, List.length_singleton]; have := HM.out; omega, HC2.out, hJ4⟩
        case measure => rw [hrg4.left_eq, HM.out.2.2.1]; exact HM.out.2.1
      · gi_wp2
        refine bodyPost_ret (results_none rfl _ _ _) rfl ?_
        exact ⟨⟨_, rfl⟩, .inr ⟨_, trivial, hJx4⟩⟩
theorem keysE_stops (n : Nat) (hn : 1 ≤ n) (Bm b : Nat) (E : List Eg) (D : DataW Value) (hK : Kd D E) (hE : ∀ e ∈ E, Eok e) (w : World) (hBm : Bm < w.heap.size) (hm : w.cell? ⟨Bm, 0, none⟩ = some (.map (some b))) (hown : w.ownsMap (H := Value) Tryd.prog 33 unitElem b (Go.Maps.size D) D) :
    SeqStopsK Fence.wide n Tryd.prog 46 #[.pointer (some ⟨Bm, 0, none⟩)] (fun x : Eg => #[egV x]) KeepsWalks (fun ys => ys.Perm E) (fun _ => True) E.length w := fun l J Jx W hW hJ _ hY h0 =>
  keysE_in l Bm b E D hK hE n hn J Jx hY W hJ ((hW.cell (p := ⟨Bm, 0, none⟩) hBm).trans hm) (owns_same hown (hW.block b hown.lt)) h0
set_option maxRecDepth 100000 in
set_option maxHeartbeats 3200000 in
theorem appendSeq19 (w : World) (Bs : Nat) (E : List Eg) (hlen : E.length ≤ 65536) (hseq : SeqStopsK Fence.wide 1 Tryd.prog 46 #[.pointer (some ⟨Bs, 0, none⟩)] (fun x : Eg => #[egV x]) KeepsWalks (fun ys => ys.Perm E) (fun _ => True) E.length w) :
    CallsIn Fence.wide 2 Tryd.prog 54 #[.slice none 0 0, .func (.func 46) #[] #[.pointer (some ⟨Bs, 0, none⟩)]] w fun e W' => ∃ v ys, e = .returned v ∧ ys.Perm E ∧ OwnE w.heap.size W' v ys ∧ Below w.heap.size w W' := by
  obtain ⟨i0, hi, hz0, hz1, hz2⟩ := info_parts Tryd.infoEdg
  refine callsIn_of_wp_marks Tryd.func54 rfl trivial ?_ rfl
  simp only [Tryd.ntmps54, List.size_toArray, List.length_cons, List.length_nil, Nat.reduceAdd, Nat.reduceSub, Array.replicate_succ, Array.replicate_zero, List.push_toArray, List.append_toArray, List.nil_append, List.cons_append]
  gi_wp2
  have bO := Boxed.new w 38 (.slice none 0 0)
  have hB0 : Below w.heap.size w (w.alloc (.cells #[.slice none 0 0] 38)) := (Below.refl _ w).alloc (Nat.le_refl _) _
  refine wpIn_rangeFunc_ownH rfl (by decide) (gf := 46) (lb := #[.pointer (some ⟨Bs, 0, none⟩)]) rfl trivial (enters_of Tryd.func46 (by kernel_rfl) rfl) hseq (fun h k => walksK_t h k) (fun W l o o' h1 h2 h3 h4 => KeepsWalks.putObj _ h2 h4) hB0 (fun _ => rfl)
    (fun pre W => (∃ v, Boxed W w.heap.size 38 v ∧ W.ownsRow w.heap.size 33 3 v pre.length (fl eg1 pre) ∧ True) ∧ Below w.heap.size w W)
    (fun _ _ _ => False)
    (OwnFrom.and (Own.from (holdsRow_own w.heap.size w.heap.size 38 33 3 (fun pre : List Eg => pre.length) (fun pre => fl eg1 pre) (fun _ _ => True)) _) (ownFrom_below (Nat.le_refl _) (by simp)))
    (fun _ _ _ _ _ hs _ _ => hs)
    ⟨⟨_, bO, World.ownsRow_nil _ _ _ _, trivial⟩, hB0⟩
    (fun x a' W => ∃ Bx, w.heap.size < Bx ∧ W.heap[Bx]? = some (egO x) ∧ a' = { tmps := #[.slice none 0 0, .func (.func 46) #[] #[.pointer (some ⟨Bs, 0, none⟩)], .pointer (some ⟨w.heap.size, 0, none⟩), undef, .slice none 0 0, .pointer (some ⟨Bx, 0, none⟩), .func (.func 46) #[] #[.pointer (some ⟨Bs, 0, none⟩)], egV x, undef, undef, undef, undef, undef], defers := [] })
    (fun x a' => fun _ W W' row ⟨Bx, q1, q2, q3⟩ hg hr => ⟨Bx, q1, cells_kept q2 rfl hg (fun r e => (hr r e).2), q3⟩) ?assign ?body ?done ?stop
  case assign =>
    rintro l pre x W K ⟨⟨v, hv, hrow, _⟩, hB⟩ hK
    gi_wp2
    exact hK _ _ ((KeepsOthers.alloc _ _).from _) (KeepsWalks.alloc _ _) ⟨⟨v, hv.alloc _, hrow.alloc _, trivial⟩, hB.alloc hB.size _⟩ ⟨W.heap.size, hv.lt, heap_new W (egO x), rfl⟩
  case body =>
    rintro l pre x a' W hl hr ⟨⟨v, hv, hrow, _⟩, hB⟩ ⟨Bx, hBx, hbx, rfl⟩ hlt
    have hc := hv.cell
    have c0 := (cell_of hbx 0).trans (show (#[Value.int .i64 x.f, .int .i64 x.t, .int .i64 x.l] : Array Value)[0]? = some (.int .i64 x.f) from rfl)
    have c1 := (cell_of hbx 1).trans (show (#[Value.int .i64 x.f, .int .i64 x.t, .int .i64 x.l] : Array Value)[1]? = some (.int .i64 x.t) from rfl)
    have c2 := (cell_of hbx 2).trans (show (#[Value.int .i64 x.f, .int .i64 x.t, .int .i64 x.l] : Array Value)[2]? = some (.int .i64 x.l) from rfl)
    have hbxl := lt_of_heap hbx
    have hpl : pre.length + 1 ≤ 65536 := by omega
    have hnew : ∀ j u, (eg1 x)[j]? = some u → (W.alloc (egO x)).cell? (Addr.add ⟨W.heap.size, 0, none⟩ j) = some u := fun j u hu => by
      rw [Addr.add_lit, cell_of (heap_new W (egO x)), Nat.zero_add, ← hu]
      simp [eg1]
    have hrow2 : (W.alloc (egO x)).ownsRow w.heap.size 33 3 v pre.length (fl eg1 pre) := hrow.alloc (egO x)
    have HR2 : Hid (∀ (v' : Value) (w1 : World), w1.ownsRow w.heap.size 33 3 v' (pre.length + 1) (fl eg1 pre ++ eg1 x) → w1.ownsRow w.heap.size 33 3 v' (pre ++ [x]).length (fl eg1 (pre ++ [x]))) := fun v' w1 h => by rw [List.length_append, fl_append]; exact (by simpa [fl] using h)
    gi_wp2_with (gi_at_builtin; refine wpListIn_append_own _ rfl _ _ 38 rfl w.heap.size 33 i0 _ 3 24 Tryd.underlying38 hi hz0 hz1 hz2 rfl (by decide) _ _ _ rfl hrow2 ⟨W.heap.size, 0, none⟩ 1 1 (eg1 x) rfl rfl hnew (fun v hv => ekE.one x v hv) (by unfold maxLen; omega) (by omega) (by have := hB.size; simp; omega) ?_; intro v' w1 hown' hgrow _; obtain ⟨g', cap', rfl⟩ := ownsRow_succ hown'; obtain ⟨hv1, hv2, hr2, hk2, hb2⟩ := hv.appended (by decide) hrow hB.size (Nat.le_refl _) hown' hgrow; have hc1 := hv1.cell; have hf1 := hv1.frozen)
    exact ⟨hk2.from _, walks_of hk2, ⟨⟨_, hv2, HR2.out _ _ hr2, trivial⟩, hB.trans hb2⟩⟩
  case done =>
    rintro D ys W hD hS ⟨⟨v, hv, hrow, _⟩, hB⟩ hK
    have hc := hv.cell
    gi_wp2
    refine ⟨by simp, .inl ⟨_, _, rfl, run_takeDeferred hK, ?_⟩⟩
    exact ⟨_, results_tmp rfl _ _ _, v, ys, rfl, hS, ownsRow_putObj hrow _ hK rfl, hB.trans (belowK_b (w := w) (Nat.le_refl _) W D _ _ (by simp at hD; omega) hK rfl rfl)⟩
  case stop =>
    rintro D c pre W _ _ h _
    exact h.elim
set_option maxRecDepth 100000 in
set_option maxHeartbeats 1600000 in
theorem collect19 (w : World) (Bs : Nat) (E : List Eg) (hlen : E.length ≤ 65536) (hseq : SeqStopsK Fence.wide 1 Tryd.prog 46 #[.pointer (some ⟨Bs, 0, none⟩)] (fun x : Eg => #[egV x]) KeepsWalks (fun ys => ys.Perm E) (fun _ => True) E.length w) :
    Calls Tryd.prog 44 #[.func (.func 46) #[] #[.pointer (some ⟨Bs, 0, none⟩)]] w fun e W' => ∃ v ys, e = .returned v ∧ ys.Perm E ∧ OwnE w.heap.size W' v ys ∧ Kept w W' := by
  have HA : Hid _ := callsIn_wide.1 (appendSeq19 w Bs E hlen hseq)
  go_enter Tryd.func44, Tryd.ntmps44
  go_wp2_with fail
  refine Calls.mono HA.out ?_
  rintro r w1 ⟨v, ys, rfl, hp, o1, b1⟩
  have HO : Hid (OwnE w.heap.size w1 v ys) := o1
  have HB : Hid _ := b1
  have HP : Hid (ys.Perm E) := hp
  rcases o1.2 with ⟨rfl, _⟩ | ⟨g, cap, cur, rfl, -⟩
  all_goals
    clear o1 b1 hp
    go_wp2_with fail
    go_ret
    exact ⟨_, ys, rfl, HP.out, HO.out, Same.of_below HB.out _⟩
set_option maxRecDepth 100000 in
theorem keys19 (mb : Nat) (w : World) : Calls Tryd.prog 31 #[.map (some mb)] w fun e w' => e = .returned (.func (.func 46) #[] #[.pointer (some ⟨w.heap.size, 0, none⟩)]) ∧ w' = w.alloc (.cells #[.map (some mb)] 58) := by
  go_enter Tryd.func31, Tryd.ntmps31
  go_wp2_with fail
  go_ret
  exact ⟨rfl, rfl⟩
theorem swoE : Sort.SWO (ltOf compE) := by
  have e : ltOf compE = ltE := funext fun a => funext fun b => compE_lt a b
  rw [e]
  exact ⟨fun x => ltE_irr x, fun x y z h1 h2 => ltE_trans h1 h2, fun x y z h1 h2 => ltE_ntr h1 h2⟩
theorem cmpLaysE (blk off size : Nat) (w : World) : CmpLays Tryd.prog 32 #[] eg1 3 compE blk off size w := fun _ _ _ _ x y => by
  refine (compare19 x y _).mono fun e w' h => ?_
  exact h
/-- The library's sort over edges. -/
theorem sortE19 {base : Nat} {w : World} {v : Value} {L : List Eg} (h : OwnE base w v L) (hl : L.length ≤ 65536) :
    Calls Tryd.prog 45 #[v, .func (.func 32) #[] #[]] w fun e w' => e = .returned (.tuple #[]) ∧ OwnE base w' v (srt ltE L) ∧ Same (fun b => v.ownBlock = some b) w w' := by
  rcases h.2 with ⟨rfl, hn⟩ | ⟨g, cap, cur, rfl, hb, hg, h1, h2, h3, h4⟩
  · have hL : L = [] := List.eq_nil_of_length_eq_zero hn
    subst hL
    refine (AnyF.slices_SortFunc_none Tryd.sortE none 0 _ w).mono fun e w' ⟨h1, h2⟩ => ?_
    subst h2
    exact ⟨h1, h, Same.refl _ _⟩
  · have hc := AnyQ.slices_SortFunc Tryd.sortE 3 Tryd.isAgg33 Tryd.sizeOf33 eg1 ekE.len ekE.one compE swoE 32 #[] g 0 cap L.toArray w Tryd.call32 (cmpLaysE _ _ _ _) (h.holdsK ekE) (lt_of_heap hg) (by simp; omega)
    refine hc.mono fun e w' ⟨he, d', n, os, hp, hs, hw⟩ => ?_
    subst hw
    obtain ⟨p1, p2, p3⟩ := hp
    have hsz : d'.toList.length = L.length := by simpa using p1
    have hd' : d' = d'.toList.toArray := by simp
    have hperm : d'.toList.Perm L := by
      have q : d'.extract 0 L.toArray.size = d' := by rw [← p1]; simp
      rw [q] at p3
      simpa using p3
    have hpw : d'.toList.Pairwise fun a b => ltE b a = false := by
      rw [List.pairwise_iff_getElem]
      intro i j hi hj hij
      have := hs i j (Nat.zero_le _) hij (by rw [← p1]; simpa using hj)
      rw [getElem!_pos d' j (by simpa using hj), getElem!_pos d' i (by simpa using hi)] at this
      have this : decide (compE d'[j] d'[i] < 0) = false := this
      rw [compE_lt] at this
      simpa using this
    have hsrt := srt_of hperm hpw
    obtain ⟨o1, s1⟩ := h.sorted ekE d'.toList hsz n os
    rw [← hd'] at o1 s1
    rw [← hsrt]
    exact ⟨he, o1, s1.mono fun b _ e => by subst e; rfl⟩
theorem srt_perm_eq {a b : List Eg} (h : a.Perm b) : srt ltE a = srt ltE b := srt_of ((srt_perm ltE a).trans h) (srt_pw ltE_swo a)
set_option maxRecDepth 100000 in
set_option maxHeartbeats 1600000 in
theorem sortedF19 {w : World} {Bs : Nat} {E : List Eg} (hlen : E.length ≤ 65536) (hc : Calls Tryd.prog 44 #[.func (.func 46) #[] #[.pointer (some ⟨Bs, 0, none⟩)]] w fun e W' => ∃ v ys, e = .returned v ∧ ys.Perm E ∧ OwnE w.heap.size W' v ys ∧ Kept w W') :
    Calls Tryd.prog 30 #[.func (.func 46) #[] #[.pointer (some ⟨Bs, 0, none⟩)], .func (.func 32) #[] #[]] w fun e w' => ∃ v, e = .returned v ∧ OwnE w.heap.size w' v (srt ltE E) ∧ Kept w w' := by
  have HC : Hid _ := hc
  clear hc
  go_enter Tryd.func30, Tryd.ntmps30
  go_wp2_with fail
  refine Calls.mono HC.out ?_
  rintro r w1 ⟨v, ys, rfl, hp, o1, k1⟩
  have HS1 : Hid _ := sortE19 o1 (by rw [hp.length_eq]; exact hlen)
  have HO1 : Hid (OwnE w.heap.size w1 v ys) := o1
  have K1 : Hid (Kept w w1) := k1
  have HP : Hid (srt ltE ys = srt ltE E) := srt_perm_eq hp
  rcases o1.2 with ⟨rfl, _⟩ | ⟨g, cp, cur, rfl, -⟩
  all_goals
    clear o1 k1 HC hp
    go_wp2_with fail
    refine Calls.mono HS1.out ?_
    rintro r w2 ⟨rfl, o2, s2⟩
    have R2 : Hid (OwnE w.heap.size w2 _ (srt ltE ys) ∧ Same _ w1 w2) := ⟨o2, s2⟩
    clear o2 s2 HS1
    go_wp2_with fail
    go_ret
    refine ⟨_, rfl, by rw [← HP.out]; exact R2.out.1, ?_⟩
    exact K1.out.trans R2.out.2 fun b hb e => absurd hb (Nat.not_lt.2 (HO1.out.block e).1)
set_option maxRecDepth 100000 in
set_option maxHeartbeats 1600000 in
theorem edges19 {w : World} {gb n : Nat} {E : List Eg} (h : Gp w gb n E) : Calls Tryd.prog 13 #[.pointer (some ⟨gb, 0, none⟩)] w fun e w' => ∃ v, e = .returned v ∧ OwnE w.heap.size w' v (srt ltE E) ∧ Kept w w' := by
  have hn := h.nodup
  obtain ⟨⟨mb, ho, D, hD, hk⟩, hnn, hfit, hlen⟩ := h
  have c1 : w.cell? ⟨gb, 1, none⟩ = some (.map (some mb)) := (cell_of ho 1).trans rfl
  have HKY : Hid (∀ W, _) := fun W => keys19 mb W
  have HD : Hid (w.ownsMap (H := Value) Tryd.prog 33 unitElem mb (Go.Maps.size D) D ∧ Kd D E ∧ (∀ e ∈ E, Eok e) ∧ E.length ≤ 65536) := ⟨hD, hk, fun e he => (hfit e he).eok hnn, hlen⟩
  clear ho hk hfit
  go_enter Tryd.func13, Tryd.ntmps13
  go_wp2_with fail
  refine Calls.mono (HKY.out _) ?_
  rintro r w1 ⟨rfl, rfl⟩
  have K1 : Kept w (w.alloc (.cells #[.map (some mb)] 58)) := (Same.refl _ w).alloc _
  obtain ⟨h1, h2, h3, h4⟩ := HD.out
  have HC : Hid _ := collect19 (w.alloc (.cells #[.map (some mb)] 58)) w.heap.size E h4 (keysE_stops 1 (Nat.le_refl _) w.heap.size mb E D h2 h3 _ (by simp) ((cell_of (heap_new w (.cells #[.map (some mb)] 58)) 0).trans rfl) (owns_same h1 (K1.block _ h1.lt (fun e => e))))
  have HK1 : Hid (Kept w (w.alloc (.cells #[.map (some mb)] 58))) := K1
  have HSF : Hid _ := sortedF19 HD.out.2.2.2 HC.out
  generalize hbs : w.heap.size = bs at HSF ⊢
  clear HC K1 h1 h2 h3 h4 hD c1
  generalize w.alloc (.cells #[.map (some mb)] 58) = W1 at HSF HK1 ⊢
  go_wp2_with fail
  refine Calls.mono HSF.out ?_
  rintro r w2 ⟨v, rfl, o2, k2⟩
  have H2 : Hid (OwnE W1.heap.size w2 v (srt ltE E) ∧ Kept w w2) := ⟨o2, HK1.out.trans' k2⟩
  rcases o2.2 with ⟨rfl, _⟩ | ⟨g, cp, cur, rfl, -⟩
  all_goals
    clear o2 k2 HSF
    go_wp2_with fail
    go_ret
    exact ⟨_, rfl, H2.out.1.base HK1.out.size, H2.out.2⟩
end Go.Proofs.YtbhihmkgimdjpaaDoor
