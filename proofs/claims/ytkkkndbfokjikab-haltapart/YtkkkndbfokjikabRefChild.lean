/- What is proved: Child of the document's own tree: what it refuses, and the tree with one stop more. -/
import Derived.Test.YtkkkndbfokjikabRefBeat
import Derived.Maps.AppendAt
import Derived.Deep.RegionLaw
namespace Go.Proofs.Ytkkkndbfokjikab
open Go.Conc Go.RowKit

set_option maxHeartbeats 400000 in
theorem rchild_no (rb : Nat) (i b : Int) (w : World) (h : b < 0 ∨ 1099511627776 < b) : Calls Try.prog 16 #[.pointer (some ⟨rb, 0, none⟩), .int .i64 i, .int .i64 b] w fun e w' => e = .returned (.int .i64 10) ∧ w' = w := by
  have tests : (decide (b < 0) = false ∧ decide (1099511627776 < b) = true) ∨ decide (b < 0) = true := by simp only [decide_eq_false_iff_not, decide_eq_true_eq]; omega
  clear h
  rcases tests with ⟨t1, t2⟩ | t1
  all_goals
    go_enter Try.func16, Try.ntmps16
    go_wp2
    go_ret
    exact ⟨rfl, rfl⟩

set_option maxRecDepth 100000 in
set_option maxHeartbeats 400000 in
theorem rchild_many {w : World} {rb g cap n : Nat} {par : Nat → Option Nat} {left cause : Nat → Int} (h : RefH w rb g cap n par left cause) (i b : Int) (h0 : 0 ≤ b) (h1 : b ≤ 1099511627776) (hn : 256 ≤ n) :
    Calls Try.prog 16 #[.pointer (some ⟨rb, 0, none⟩), .int .i64 i, .int .i64 b] w fun e w' => e = .returned (.int .i64 11) ∧ w' = w := by
  obtain ⟨c0, f0⟩ := h.rcell
  have t1 : decide (b < 0) = false := by simp only [decide_eq_false_iff_not]; omega
  have t2 : decide (1099511627776 < b) = false := by simp only [decide_eq_false_iff_not]; omega
  have t3 : (256 : Int) ≤ (n : Int) := by omega
  clear h h0 h1
  go_enter Try.func16, Try.ntmps16
  go_wp2
  go_ret
  exact ⟨rfl, rfl⟩

/-- append onto a list that is owned, as one step of a region that draws its order. -/
theorem step_append_own {P : Program} {ops : Array Oper} {o : Oper} {a : Act} {w : World} {K : Act → World → Prop} {Q : Exit → Act → World → Prop} {E : Prop}
    (hg : o.guard = none) (s x : Operand) (t : TypeId) (hop : o.op = Op.call { callee := Callee.builtin Builtin.append, args := #[s, x], argTypes := #[t, t] })
    (e : TypeId) (i : TypeInfo) (z : Value) (size bytes : Nat) (h1 : P.underlying t = some (.slice e)) (h2 : P.info? e = some i) (h3 : i.zero = some z) (h4 : i.size = size) (h5 : i.bytes = bytes) (h6 : z.cells.size = size) (h7 : 0 < size)
    (v : Value) (n : Nat) (xs : List Value) (hs : a.eval s = v) (hown : w.ownsRow 0 e size v n xs)
    (ad : Addr) (m c : Nat) (news : List Value) (hx : a.eval x = .slice (some ad) m c) (hn : news.length = m * size) (hc : ∀ j u, news[j]? = some u → w.cell? (ad.add j) = some u) (h1c : ∀ u ∈ news, u.oneCell' = true)
    (b1 : n + m ≤ maxLen) (b2 : (n + m) * bytes ≤ 140737488355328)
    (hK : ∀ v' w', w'.ownsRow 0 e size v' (n + m) (xs ++ news) → w.grownBy w' v.ownBlock → (v'.ownBlock = v.ownBlock ∨ v'.ownBlock = some w.heap.size) → K (a.put o.dst v') w') :
    if Region.wanted o (yielded ops a.tmps) = true then Oper.wp P o a w K Q else E := by
  have hw : Region.wanted o (yielded ops a.tmps) = true := by simp [Region.wanted, hg]
  rw [if_pos hw]
  obtain ⟨v', w', hrun, r1, r2, _, r3⟩ := run_append_own_at (P := P) w 0 t o.type e i z size bytes h1 h2 h3 h4 h5 h6 h7 v n xs hown ad m c news hn hc h1c b1 b2 (Nat.zero_le _)
  unfold Oper.wp
  simp only [execOp, hop, resolve, invoke, builtin, Sem.run_bind, Sem.run_pure, Result.andThen_ok, List.map_toArray, List.map_cons, List.map_nil, hs, hx, hrun]
  exact hK v' w' r1 r2 r3

theorem Try.infoR : (Try.prog.info? 40).map (fun i => (i.zero, i.size, i.bytes)) = some (some (.agg #[.int .i64 0, .int .i64 0, .int .i64 0]), 3, 24) := by kernel_rfl

theorem RefH.row {w : World} {rb g cap n : Nat} {par : Nat → Option Nat} {left cause : Nat → Int} (h : RefH w rb g cap n par left cause) : ∃ xs, w.ownsRow 0 40 3 (.slice (some ⟨g, 0, none⟩) n cap) n xs ∧
    ∀ i, i < n → xs[i * 3]? = some (.int .i64 (pz (par i))) ∧ xs[i * 3 + 1]? = some (.int .i64 (left i)) ∧ xs[i * 3 + 2]? = some (.int .i64 (cause i)) := by
  obtain ⟨cur, hg, h1, h2, h3, hc⟩ := h.cur
  refine ⟨cur.toList.take (n * 3), ⟨?_, .inr ⟨g, cap, cur, rfl, Nat.zero_le _, hg, h1, h2, h3, rfl⟩⟩, fun i hi => ?_⟩
  · rw [List.length_take, Array.length_toList, h3]; omega
  · obtain ⟨a, b, c⟩ := hc i hi
    rw [List.getElem?_take_of_lt (by omega), List.getElem?_take_of_lt (by omega), List.getElem?_take_of_lt (by omega)]
    simpa using ⟨a, b, c⟩

/-- The tree with one stop more, behind the append and the store. -/
theorem ref_grown {w w1 : World} {rb g g' cap cap' n i : Nat} {par : Nat → Option Nat} {left cause : Nat → Int} {b c : Int} {xs : List Value} (hb : w1.heap[rb]? = some (.cells #[.slice (some ⟨g, 0, none⟩) n cap] 31 (0, 0)))
    (hx : ∀ i, i < n → xs[i * 3]? = some (.int .i64 (pz (par i))) ∧ xs[i * 3 + 1]? = some (.int .i64 (left i)) ∧ xs[i * 3 + 2]? = some (.int .i64 (cause i))) (hl : xs.length = n * 3)
    (hown : w1.ownsRow 0 40 3 (.slice (some ⟨g', 0, none⟩) (n + 1) cap') (n + 1) (xs ++ [.int .i64 i, .int .i64 b, .int .i64 c])) (hw : w = w1.setCell ⟨rb, 0, none⟩ (.slice (some ⟨g', 0, none⟩) (n + 1) cap')) :
    RefH w rb g' cap' (n + 1) (upd par n (some i)) (upd left n b) (upd cause n c) := by
  subst hw
  rcases hown.2 with ⟨h, _⟩ | ⟨g1, cap1, cur, hv, _, hg, h1, h2, h3, h4⟩
  · cases h
  cases hv
  have hne : g' ≠ rb := fun e => by rw [e, hb] at hg; simp at hg
  refine ⟨(setCell_at hb 0 _).trans rfl, cur, (Below.heap_setCell _ _ _ _ hne).trans hg, h1, h2, h3, fun j hj => ?_⟩
  have hget : ∀ o, o < (n + 1) * 3 → cur[o]? = (xs ++ [.int .i64 i, .int .i64 b, .int .i64 c])[o]? := fun o ho => by
    rw [← h4, List.getElem?_take_of_lt ho]; simp
  rw [hget _ (by omega), hget _ (by omega), hget _ (by omega)]
  by_cases e : j = n
  · subst e
    rw [upd_same, upd_same, upd_same, List.getElem?_append_right (by omega), List.getElem?_append_right (by omega), List.getElem?_append_right (by omega), hl]
    simp [pz]
  · rw [upd_other _ _ e, upd_other _ _ e, upd_other _ _ e, List.getElem?_append_left (by omega), List.getElem?_append_left (by omega), List.getElem?_append_left (by omega)]
    exact hx j (by omega)

set_option maxRecDepth 100000 in
set_option maxHeartbeats 800000 in
theorem rchild_yes {w : World} {rb g cap n : Nat} {par : Nat → Option Nat} {left cause : Nat → Int} (h : RefH w rb g cap n par left cause) (i : Nat) (hi : i < n) (b : Int) (h0 : 0 ≤ b) (h1 : b ≤ 1099511627776) (hn : n < 256) :
    Calls Try.prog 16 #[.pointer (some ⟨rb, 0, none⟩), .int .i64 i, .int .i64 b] w fun e w' => e = .returned (.int .i64 0) ∧
      ∃ g' cap', RefH w' rb g' cap' (n + 1) (upd par n (some i)) (upd left n b) (upd cause n (born (cause i))) ∧ (g' = g ∨ w.heap.size ≤ g') ∧ Same (fun k => k = rb ∨ k = g) w w' := by
  obtain ⟨c0, f0⟩ := h.rcell
  obtain ⟨-, -, c2, -, f2⟩ := h.cells hi
  have t1 : decide (b < 0) = false := by simp only [decide_eq_false_iff_not]; omega
  have t2 : decide (1099511627776 < b) = false := by simp only [decide_eq_false_iff_not]; omega
  have t3 : ¬ (256 : Int) ≤ (n : Int) := by omega
  have hin : (i : Int) < (n : Int) := by omega
  have hlr := lt_of_heap h.tree
  obtain ⟨cur, hg, -⟩ := h.cur
  have hlg := lt_of_heap hg
  obtain ⟨i1, hi1, hz0, hz1, hz2⟩ := info_parts Try.infoR
  obtain ⟨xs, hrow, hxs⟩ := h.row
  have HR : Hid _ := hrow
  have HX : Hid _ := hxs
  have HT : Hid _ := h.tree
  have HN : Hid (rb ≠ g) := h.ne
  -- in the world with the new struct's block
  have a0 : ∀ o, (w.alloc o).cell? ⟨rb, 0, none⟩ = some (.slice (some ⟨g, 0, none⟩) n cap) := fun o => (World.cell?_alloc_past _ _ _ hlr).trans c0
  have a2 : ∀ o, (w.alloc o).cell? ⟨g, i * 3 + 2, none⟩ = some (.int .i64 (cause i)) := fun o => (World.cell?_alloc_past _ _ _ hlg).trans c2
  clear h hrow hxs hg
  have HN3 : Hid (∀ c : Int, ∀ j u, [Value.int .i64 i, .int .i64 b, .int .i64 c][j]? = some u → ((w.alloc (.cells #[.int .i64 i, .int .i64 b, .int .i64 c] 40)).alloc (.cells #[.int .i64 i, .int .i64 b, .int .i64 c] 40)).cell? ((⟨w.heap.size + 1, 0, none⟩ : Addr).add j) = some u) := by
    intro c j u hj
    have hb := heap_alloc_new (w.alloc (.cells #[.int .i64 i, .int .i64 b, .int .i64 c] 40)) (.cells #[.int .i64 i, .int .i64 b, .int .i64 c] 40)
    rw [World.size_alloc] at hb
    have hadd : (⟨w.heap.size + 1, 0, none⟩ : Addr).add j = ⟨w.heap.size + 1, j, none⟩ := by unfold Addr.add; split <;> simp_all
    rw [hadd, cell_of hb]
    simpa using hj
  by_cases hz : (cause i != 0) = true
  · have HB : Hid (born (cause i) = 3) := by
      show born (cause i) = 3
      simp only [born]; exact if_neg (by simpa using hz)
    go_enter Try.func16, Try.ntmps16
    go_wp2_with fail
    go_region_law (refine step_append_own rfl (.tmp 37) (.tmp 39) 29 rfl 40 i1 _ 3 24 Try.underlying29 hi1 hz0 hz1 hz2 rfl (by decide) (.slice (some ⟨g, 0, none⟩) n cap) n xs (by simp [Act.eval]) (by exact World.ownsRow.alloc (World.ownsRow.alloc HR.out _) _) ⟨w.heap.size + 1, 0, none⟩ 1 1 [.int .i64 i, .int .i64 b, .int .i64 3] (by simp [Act.eval]) rfl (by exact HN3.out 3) (by simp [Value.oneCell']) (by unfold maxLen; omega) (by omega) ?_; intro v' w1 hown' hgrow hat; obtain ⟨g', cap', rfl⟩ := row_slice hown'; have b3 : w1.heap[rb]? = some (.cells #[.slice (some ⟨g, 0, none⟩) n cap] 31 (0, 0)) := (hgrow.block rb (by simp; omega) (by simpa [Value.ownBlock] using HN.out)).trans ((Below.heap_alloc _ _ _ (by simp; omega)).trans ((Below.heap_alloc _ _ _ hlr).trans HT.out)); have c3 : w1.cell? ⟨rb, 0, none⟩ = some (.slice (some ⟨g, 0, none⟩) n cap) := (cell_of b3 0).trans rfl; have f3 : w1.frozen? ⟨rb, 0, none⟩ = false := frozen_of b3 0; have H3 : Hid _ := b3; have HO : Hid _ := hown'; have HG : Hid _ := hgrow; have HA : Hid _ := hat; clear b3 hown' hgrow hat)
    all_goals
      go_wp2_with fail
      go_ret
      refine ⟨rfl, g', cap', ?_, ?_, ?_⟩
      · rw [HB.out]
        exact ref_grown H3.out HX.out HR.out.1 HO.out rfl
      · have := HA.out
        simp [Value.ownBlock] at this
        omega
      · refine Same.setCell ?_ _ (.inr (.inl rfl)) _
        have hg := HG.out
        have s1 : Same (fun k => k = rb ∨ k = g) w ((w.alloc (.cells #[.int .i64 i, .int .i64 b, .int .i64 3] 40)).alloc (.cells #[.int .i64 i, .int .i64 b, .int .i64 3] 40)) := ((Same.refl _ w).alloc _).alloc _
        exact s1.trans' ⟨hg.os, hg.tape, hg.output, hg.size, fun k hk hn => hg.block k hk fun e => hn (.inr (by simpa [Value.ownBlock] using e))⟩
  · have hz' : (cause i != 0) = false := by simpa using hz
    have HB : Hid (born (cause i) = 0) := by
      show born (cause i) = 0
      simp only [born]; exact if_pos (by simpa using hz)
    clear hz
    go_enter Try.func16, Try.ntmps16
    go_wp2_with fail
    go_region_law (refine step_append_own rfl (.tmp 37) (.tmp 39) 29 rfl 40 i1 _ 3 24 Try.underlying29 hi1 hz0 hz1 hz2 rfl (by decide) (.slice (some ⟨g, 0, none⟩) n cap) n xs (by simp [Act.eval]) (by exact World.ownsRow.alloc (World.ownsRow.alloc HR.out _) _) ⟨w.heap.size + 1, 0, none⟩ 1 1 [.int .i64 i, .int .i64 b, .int .i64 0] (by simp [Act.eval]) rfl (by exact HN3.out 0) (by simp [Value.oneCell']) (by unfold maxLen; omega) (by omega) ?_; intro v' w1 hown' hgrow hat; obtain ⟨g', cap', rfl⟩ := row_slice hown'; have b3 : w1.heap[rb]? = some (.cells #[.slice (some ⟨g, 0, none⟩) n cap] 31 (0, 0)) := (hgrow.block rb (by simp; omega) (by simpa [Value.ownBlock] using HN.out)).trans ((Below.heap_alloc _ _ _ (by simp; omega)).trans ((Below.heap_alloc _ _ _ hlr).trans HT.out)); have c3 : w1.cell? ⟨rb, 0, none⟩ = some (.slice (some ⟨g, 0, none⟩) n cap) := (cell_of b3 0).trans rfl; have f3 : w1.frozen? ⟨rb, 0, none⟩ = false := frozen_of b3 0; have H3 : Hid _ := b3; have HO : Hid _ := hown'; have HG : Hid _ := hgrow; have HA : Hid _ := hat; clear b3 hown' hgrow hat)
    all_goals
      go_wp2_with fail
      go_ret
      refine ⟨rfl, g', cap', ?_, ?_, ?_⟩
      · rw [HB.out]
        exact ref_grown H3.out HX.out HR.out.1 HO.out rfl
      · have := HA.out
        simp [Value.ownBlock] at this
        omega
      · refine Same.setCell ?_ _ (.inr (.inl rfl)) _
        have hg := HG.out
        have s1 : Same (fun k => k = rb ∨ k = g) w ((w.alloc (.cells #[.int .i64 i, .int .i64 b, .int .i64 0] 40)).alloc (.cells #[.int .i64 i, .int .i64 b, .int .i64 0] 40)) := ((Same.refl _ w).alloc _).alloc _
        exact s1.trans' ⟨hg.os, hg.tape, hg.output, hg.size, fun k hk hn => hg.block k hk fun e => hn (.inr (by simpa [Value.ownBlock] using e))⟩
end Go.Proofs.Ytkkkndbfokjikab
