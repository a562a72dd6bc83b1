/- What is proved: Order gives the least order along the edges, or tells that there is none; the graph lies in memory. -/
import Derived.Test.YtbhihmkgimdjpaaDoorGhOd
import Derived.Test.YtbhihmkgimdjpaaDoorGhA
namespace Go.Proofs.YtbhihmkgimdjpaaDoor
open Go.RowKit

theorem make_is0 (w : World) (n : Nat) (hn : n ≤ 1024) : (Instr.makeSlice 41 (.int .i64 0) (.int .i64 (n : Int))).run Tryd.prog w = .ok (.slice (some ⟨w.heap.size, 0, none⟩) 0 n) (w.alloc (.cells (madeCells #[.int .i64 0] n) 3)) := by
  obtain ⟨i0, hi0, hz0, hz1, hz2⟩ := info_parts Tryd.infoInt
  have hr := run_make (P := Tryd.prog) w 41 3 i0 _ Tryd.underlying41 hi0 hz0 .i64 .i64 0 n (by omega) (by omega) (by rw [hz2]; omega) (by omega)
  have hc : (Value.int .i64 0).cells = #[.int .i64 0] := by rfl
  simp only [Int.toNat_natCast, hz1, hc, Nat.mul_one] at hr
  exact hr
/-- What stands while the order grows. -/
structure So (w W : World) (H n g gs : Nat) (tl : List Nat) (A : Nat → Nat → Bool) (v : Value) (sl : List Nat) (q : List Nat) : Prop where
  t : W.heap[H]? = some (tbO n g (n * wN n) (n * wN n))
  tab : OwnW w.heap.size W (.slice (some ⟨g, 0, none⟩) (n * wN n) (n * wN n)) tl
  s : OwnW w.heap.size W (.slice (some ⟨gs, 0, none⟩) (wN n) (wN n)) sl
  len : sl.length = wN n
  wd : Wds sl (inq q)
  o : OwnI w.heap.size W v (qL q)
  ne : ∀ b, v.ownBlock = some b → b ≠ gs ∧ b ≠ g ∧ b ≠ H
  gg : gs ≠ g ∧ gs ≠ H ∧ w.heap.size ≤ gs
  od : Od n A q
  k : Kept w W
variable {w W : World} {H n g gs : Nat} {tl : List Nat} {A : Nat → Nat → Bool} {v : Value} {sl q : List Nat}
theorem So.on {W' : World} (h : So w W H n g gs tl A v sl q) (k : Kept W W') : So w W' H n g gs tl A v sl q :=
  ⟨(k.block H (lt_of_heap h.t) (fun e => e)).trans h.t, h.tab.on k, h.s.on k, h.len, h.wd, h.o.on k, h.ne, h.gg, h.od, h.k.trans' k⟩
theorem So.app (h : So w W H n g gs tl A v sl q) (hq : q.length ≤ 4000) {y gy : Nat} (hg : W.heap[gy]? = some (.cells #[.int .i64 (y : Int)] 3 (0, 0))) (ty : TypeId) :
    ∃ v' W', (Builtin.append_ #[41, 41] ty #[v, .slice (some ⟨gy, 0, none⟩) 1 1]).run Tryd.prog W = .ok v' W' ∧ W'.heap[H]? = some (tbO n g (n * wN n) (n * wN n)) ∧ OwnW w.heap.size W' (.slice (some ⟨g, 0, none⟩) (n * wN n) (n * wN n)) tl ∧ OwnW w.heap.size W' (.slice (some ⟨gs, 0, none⟩) (wN n) (wN n)) sl ∧ OwnI w.heap.size W' v' (qL (q ++ [y])) ∧ (∀ b, v'.ownBlock = some b → b ≠ gs ∧ b ≠ g ∧ b ≠ H) ∧ Kept w W' := by
  have hy : At i1 1 W (some ⟨gy, 0, none⟩) [(y : Int)] := fun j x hx => by
    match j, hx with
    | 0, hx =>
      simp at hx
      subst hx
      exact ⟨gy, 0, rfl, lt_of_heap hg, fun c v hv => by
        rw [cell_of hg]
        match c, hv with
        | 0, hv => simpa using hv⟩
    | j + 1, hx => simp at hx
  obtain ⟨v', W', hr, o, s, hv⟩ := Own.app (ys := [(y : Int)]) ekI Tryd.underlying41 Tryd.infoInt rfl h.o hy (by simp) (by rw [qL_len]; show (q.length + 1 + (q.length + 1) / 4 + 192) * 8 ≤ _; omega) (by rw [qL_len]; show q.length + 1 ≤ _; unfold maxLen; omega) h.k.size (ty := ty) (c := 1)
  have hb : ∀ b, v.ownBlock = some b → w.heap.size ≤ b := fun b e => (h.o.block e).1
  obtain ⟨-, c1, h1⟩ := h.s.block (b := gs) rfl
  obtain ⟨-, c2, h2⟩ := h.tab.block (b := g) rfl
  have l1 := lt_of_heap h1
  have l2 := lt_of_heap h2
  have l3 := lt_of_heap h.t
  refine ⟨v', W', hr, (s.block H l3 (fun e => (h.ne _ e).2.2 rfl)).trans h.t, h.tab.kept s (fun b e e2 => by cases e; exact (h.ne _ e2).2.1 rfl), h.s.kept s (fun b e e2 => by cases e; exact (h.ne _ e2).1 rfl), by rw [qL_app]; exact o, fun b e => ?_, h.k.trans s (fun i hi e => by have := hb i e; omega)⟩
  rcases hv b e with e2 | e2
  · exact h.ne b e2
  · omega
set_option maxRecDepth 100000 in
set_option maxHeartbeats 6400000 in
theorem order19 {w : World} {gb n : Nat} {E : List Eg} (h : Gp w gb n E) (m : Int) : Calls Tryd.prog 19 #[.pointer (some ⟨gb, 0, none⟩), .int .i64 m] w fun r w' => (∃ q, Od n (jda E m) q ∧ ((q.length = n ∧ ∃ v, r = .returned (.tuple #[v, .bool true]) ∧ OwnI w.heap.size w' v (qL q)) ∨ (q.length < n ∧ FrR n (jda E m) (inq q) none ∧ r = .returned (.tuple #[.slice none 0 0, .bool false])))) ∧ Kept w w' := by
  have HA : Hid _ := ahead19 h m
  have HG : Hid (∀ W, Kept w W → W.cell? ⟨gb, 0, none⟩ = some (.int .i64 n)) := fun W k => by
    obtain ⟨mb, ho, -⟩ := (h.on k).ex
    exact (cell_of ho 0).trans rfl
  have hn := h.nle
  have HNL : Hid (n ≤ 1024) := h.nle
  have HJ : Hid (∀ p q, jda E m p q = true → q < n) := fun p q hpq => by
    obtain ⟨e, he, h1, h2, h3⟩ := jda_iff.1 hpq
    have := h.fit e he
    have := this.fn
    omega
  have HN : Hid (∀ W, _) := fun W => newSet19 n hn W
  have hm := fun W => make_is0 W n hn
  clear h
  go_enter Tryd.func19, Tryd.ntmps19
  go_wp2_with fail
  refine Calls.mono HA.out ?_
  rintro r w1 ⟨g, tl, rfl, ol, ll, htl, k1⟩
  have c1 := HG.out w1 k1
  have c2 := HG.out _ (k1.alloc (tbO n g (n * wN n) (n * wN n)))
  have K1 : Hid (Kept w w1 ∧ OwnW w.heap.size w1 (.slice (some ⟨g, 0, none⟩) (n * wN n) (n * wN n)) tl ∧ tl.length = n * wN n ∧ Tbl (wN n) tl (jda E m)) := ⟨k1, ol, ll, htl⟩
  clear k1 ol ll htl HA
  go_upto_region 3 with fail
  obtain ⟨H, eH⟩ : ∃ H, H = w1.heap.size := ⟨_, rfl⟩
  rw [← eH]
  have Z3 : Hid (((w1.alloc (tbO n g (n * wN n) (n * wN n))).alloc (.cells (madeCells #[.int .i64 0] n) 3)).heap[H]? = some (tbO n g (n * wN n) (n * wN n)) ∧ OwnI w.heap.size ((w1.alloc (tbO n g (n * wN n) (n * wN n))).alloc (.cells (madeCells #[.int .i64 0] n) 3)) (.slice (some ⟨H + 1, 0, none⟩) 0 n) (qL []) ∧ OwnW w.heap.size ((w1.alloc (tbO n g (n * wN n) (n * wN n))).alloc (.cells (madeCells #[.int .i64 0] n) 3)) (.slice (some ⟨g, 0, none⟩) (n * wN n) (n * wN n)) tl ∧ g < H ∧ w.heap.size ≤ H ∧ ((w1.alloc (tbO n g (n * wN n) (n * wN n))).alloc (.cells (madeCells #[.int .i64 0] n) 3)).heap.size = H + 2 ∧ Kept w ((w1.alloc (tbO n g (n * wN n) (n * wN n))).alloc (.cells (madeCells #[.int .i64 0] n) 3))) := by
    obtain ⟨q1, q2, q3, q4⟩ := K1.out
    obtain ⟨-, c9, h9⟩ := q2.block (b := g) rfl
    have l9 := lt_of_heap h9
    have kk : Kept w1 ((w1.alloc (tbO n g (n * wN n) (n * wN n))).alloc (.cells (madeCells #[.int .i64 0] n) 3)) := ((Same.refl _ w1).alloc _).alloc _
    have hnew := heap_new (w1.alloc (tbO n g (n * wN n) (n * wN n))) (.cells (madeCells #[.int .i64 0] n) 3)
    rw [World.size_alloc, ← eH] at hnew
    have hsz := q1.size
    refine ⟨(heap_old _ _ (by rw [World.size_alloc]; omega)).trans (by rw [eH]; exact heap_new w1 _), ⟨by simp [qL, fl], .inr ⟨H + 1, n, _, by simp [qL], by omega, hnew, ?_⟩⟩, q2.on kk, by omega, by omega, by rw [World.size_alloc, World.size_alloc, ← eH], q1.trans' kk⟩
    refine ⟨?_, ?_, ?_, ?_⟩
    all_goals first | (simp [qL, fl]; done) | (unfold maxLen; omega) | (have := congrArg List.length (made_list (.int .i64 0) n); simpa using this)
  generalize (w1.alloc (tbO n g (n * wN n) (n * wN n))).alloc (.cells (madeCells #[.int .i64 0] n) 3) = W3 at Z3 ⊢
  have c3 := HG.out W3 Z3.out.2.2.2.2.2.2
  have c4 := HG.out _ (Z3.out.2.2.2.2.2.2.alloc (.cells (madeCells #[.int .u64 0] (wN n)) 93))
  clear c1 c2 hm eH
  go_wp2_with (go_at_call 38; refine Calls.mono (HN.out _) ?_; rintro r w4 ⟨rfl, rfl⟩)
  obtain ⟨gs, egs⟩ : ∃ gs, gs = W3.heap.size := ⟨_, rfl⟩
  rw [← egs]
  have HS0 : Hid (So w (W3.alloc (.cells (madeCells #[.int .u64 0] (wN n)) 93)) H n g gs tl (jda E m) (.slice (some ⟨H + 1, 0, none⟩) 0 n) (List.replicate (wN n) 0) []) := by
    obtain ⟨q1, q2, q3, q4, q5, q6, q7⟩ := Z3.out
    have ow := own_words W3 (wN n) (by have := wN_le hn; omega)
    have k1 : Kept W3 (W3.alloc (.cells (madeCells #[.int .u64 0] (wN n)) 93)) := (Same.refl _ W3).alloc _
    rw [← egs] at ow
    refine ⟨(k1.block H (by omega) (fun e => e)).trans q1, q3.on k1, ow.base (by omega), by simp, (Wds.zero _).congr fun _ => by simp [inq], q2.on k1, fun b e => ?_, ⟨by omega, by omega, by omega⟩, Od.nil, q7.trans' k1⟩
    simp [Value.ownBlock] at e
    omega
  generalize W3.alloc (.cells (madeCells #[.int .u64 0] (wN n)) 93) = W4 at HS0 ⊢
  have HTL : Hid (tl.length = n * wN n ∧ Tbl (wN n) tl (jda E m)) := K1.out.2.2
  clear c3 c4 Z3 K1 HG HN egs
  go_loopw [7, 28] (fun v7 i28 wr => ∃ (j : Nat) (sl q : List Nat), i28 = .int .i64 (j : Int) ∧ j ≤ n ∧ q.length = j ∧ So w wr H n g gs tl (jda E m) v7 sl q) (fun _ i _ => n - (intOf i).toNat)
  case atStart => exact ⟨0, _, [], rfl, Nat.zero_le _, rfl, HS0.out⟩
  case round =>
    obtain ⟨j, sl, q, rfl, hj, hq, so⟩ := hrel
    rename World => WL
    have HSO : Hid (So w WL H n g gs tl (jda E m) _ sl q) := so
    have HQ : Hid (q.length = j ∧ j ≤ n) := ⟨hq, hj⟩
    by_cases hlt : j < n
    · have c1 : (j : Int) < (n : Int) := by omega
      have c2 : (j : Int) ≤ 1024 := by omega
      have d0 : WL.cell? ⟨H, 0, none⟩ = some (.int .i64 n) := (cell_of so.t 0).trans rfl
      have d1 : WL.cell? ⟨H, 1, none⟩ = some (.slice (some ⟨g, 0, none⟩) (n * wN n) (n * wN n)) := (cell_of so.t 1).trans rfl
      have HF : Hid _ := free19 hn so.tab HTL.out.1 HTL.out.2 HJ.out so.s so.len so.wd
      clear so hq hlt HS0
      go_wp2_with fail
      refine Calls.mono HF.out ?_
      rintro r w5 ⟨o, rfl, hfr, kg⟩
      have HS5 : Hid (So w w5 H n g gs tl (jda E m) u7 sl q) := HSO.out.on kg.kept
      have HFR : Hid (FrR n (jda E m) (inq q) o) := hfr
      clear hfr kg HF HSO d0 d1
      cases o with
      | none =>
        have hfv : frV none = .tuple #[.int .i64 0, .bool false] := rfl
        rw [hfv]
        clear hfv
        go_wp2_with fail
        go_ret2
        exact ⟨⟨q, HS5.out.od, .inr ⟨by have := HQ.out; omega, HFR.out, rfl⟩⟩, HS5.out.k⟩
      | some a =>
        have hfv : frV (some a) = .tuple #[.int .i64 (a : Int), .bool true] := rfl
        rw [hfv]
        clear hfv
        have HX : Hid (a < n ∧ j < n) := ⟨HFR.out.1, by omega⟩
        have so6 := HS5.out.on ((Same.refl (fun _ => False) w5).alloc (.cells #[.int .i64 (a : Int)] 3))
        have HAP : Hid (∀ ty, _) := fun ty => so6.app (y := a) (by have := HQ.out; omega) (heap_new _ _) ty
        clear so6
        go_wp2_with (at_builtin; refine wpList_app rfl (.tmp 38) (.tmp 40) 41 rfl u7 (.slice (some ⟨w5.heap.size, 0, none⟩) 1 1) rfl rfl _ HAP.out ?_; rintro v7 w7 ⟨y1, y2, y3, y4, y5, y6⟩)
        obtain ⟨x, hx⟩ : ∃ x, sl[a / 64]? = some x := ⟨_, List.getElem?_eq_getElem (by rw [HS5.out.len]; exact wN_lt HX.out.1)⟩
        have hcl := y3.cell1 ekU hx rfl
        have hpc := put19 w7 gs 0 (wN n) (wN n) x a (by have := HX.out; omega) (wN_lt HX.out.1) (HS5.out.wd _ _ hx).1 (by rw [Nat.zero_add]; exact hcl.1) (by rw [Nat.zero_add]; exact hcl.2.1)
        rw [Nat.zero_add] at hpc
        obtain ⟨o2, s2⟩ := y3.set1 ekU (j := a / 64) (by rw [HS5.out.len]; exact wN_lt HX.out.1) (x ||| 2 ^ (a % 64)) rfl
        have HNX : Hid (∀ q9, So w ((w7.setCell ⟨gs, a / 64, none⟩ (.int .u64 ((x ||| 2 ^ (a % 64) : Nat) : Int))).drewN q9) H n g gs tl (jda E m) v7 (sl.set (a / 64) (x ||| 2 ^ (a % 64))) (q ++ [a])) := fun q9 => by
          obtain ⟨g1, g2, g3⟩ := HS5.out.gg
          have kd : Kept (w7.setCell ⟨gs, a / 64, none⟩ (.int .u64 ((x ||| 2 ^ (a % 64) : Nat) : Int))) ((w7.setCell ⟨gs, a / 64, none⟩ (.int .u64 ((x ||| 2 ^ (a % 64) : Nat) : Int))).drewN q9) := Same.drewN (Same.refl _ _) q9
          refine So.on ⟨(s2.block H (lt_of_heap y1) (fun e => g2 (Eq.symm e))).trans y1, y2.kept s2 (fun b hb e => by cases hb; exact g1 (Eq.symm e)), o2, by rw [List.length_set]; exact HS5.out.len, ?_, y4.kept s2 (fun b hb e => (y5 b hb).1 e), y5, HS5.out.gg, HS5.out.od.step HFR.out, y6.trans s2 (fun i hi e => by have e : i = gs := e; omega)⟩ kd
          refine (HS5.out.wd.put hx).congr fun z => ?_
          rw [Bool.eq_iff_iff]
          simp [inq]
        have HPC : Hid _ := hpc
        clear hx hcl o2 s2 hpc y1 y2 y3 y4 y5 y6 HAP
        refine Calls.mono HPC.out ?_
        rintro r w8 ⟨rfl, q9, rfl⟩
        have HNX2 : Hid _ := HNX.out q9
        generalize (w7.setCell ⟨gs, a / 64, none⟩ (.int .u64 ((x ||| 2 ^ (a % 64) : Nat) : Int))).drewN q9 = W8 at HNX2 ⊢
        clear HNX HPC
        go_wp2_with fail
        exact ⟨⟨j + 1, _, q ++ [a], rfl, HX.out.2, by rw [List.length_append, HQ.out.1]; rfl, HNX2.out⟩, by simp only [intOf]; have := HX.out; omega⟩
    · obtain rfl : n = j := by omega
      have c1 : ¬ (n : Int) < (n : Int) := by omega
      clear so hq HS0
      go_wp2_with fail
      go_ret2
      exact ⟨⟨q, HSO.out.od, .inl ⟨HQ.out.1, _, rfl, HSO.out.o⟩⟩, HSO.out.k⟩
end Go.Proofs.YtbhihmkgimdjpaaDoor
