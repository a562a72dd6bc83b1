/- What is proved: 'rightBeats' tells whether a number of beats is lawful; 'add' makes a live stop at the end of a tree's list and turns nothing but the tree's own block and its list; the tree's block and list lie in memory. -/
import Derived.Test.YtkkkndbfokjikabBeatT
import Derived.Maps.AppendAt
import Derived.Conc.SmallLaws
import Derived.WalkSpells
namespace Go.Proofs.Ytkkkndbfokjikab
open Go.Conc Go.RowKit Go.MuLone

set_option maxHeartbeats 400000 in
theorem right_yes (b : Int) (w : World) (h0 : 0 ≤ b) (h1 : b ≤ 1099511627776) : Calls Try.prog 12 #[.int .i64 b] w fun e w' => e = .returned (.bool true) ∧ w' = w := by
  go_enter Try.func12, Try.ntmps12
  go_wp2
  go_ret
  exact ⟨rfl, rfl⟩
set_option maxHeartbeats 400000 in
theorem right_no (b : Int) (w : World) (h : b < 0 ∨ 1099511627776 < b) : Calls Try.prog 12 #[.int .i64 b] w fun e w' => e = .returned (.bool false) ∧ w' = w := by
  rcases h with h | h
  · have h0 : ¬ 0 ≤ b := by omega
    go_enter Try.func12, Try.ntmps12
    go_wp2
    go_ret
    exact ⟨rfl, rfl⟩
  · have h0 : 0 ≤ b := by omega
    have h1 : ¬ b ≤ 1099511627776 := by omega
    go_enter Try.func12, Try.ntmps12
    go_wp2
    go_ret
    exact ⟨rfl, rfl⟩

theorem Try.infoP : (Try.prog.info? 24).map (fun i => (i.zero, i.size, i.bytes)) = some (some (.pointer none), 1, 8) := by kernel_rfl
theorem mkChan (w : World) : (Instr.makeChan 56 (.int .i64 0)).run Try.prog w = .ok (.chan (some w.heap.size)) (w.alloc (.chan 0 #[] false 0 0 false)) := by
  have h : (Try.prog.info? 45).map (·.bytes) = some 0 := by kernel_rfl
  obtain ⟨i, hi, hb⟩ := Option.map_eq_some_iff.1 h
  simpa using run_makeChan (P := Try.prog) (w := w) Try.underlying56 hi .i64 0 (by omega) (by rw [hb]; omega)

theorem row_slice {w : World} {v : Value} {n : Nat} {xs : List Value} {base : Nat} {e : TypeId} {size : Nat} (h : w.ownsRow base e size v (n + 1) xs) : ∃ g cap, v = .slice (some ⟨g, 0, none⟩) (n + 1) cap := by
  rcases h.2 with ⟨_, h0⟩ | ⟨g, cap, cur, hv, _⟩
  · omega
  · exact ⟨g, cap, hv⟩

set_option maxRecDepth 100000 in
set_option maxHeartbeats 800000 in
theorem add_any (m : Int) (tb n : Nat) (sv : Value) (xs : List Value) (pp : Option Nat) (beats : Int) (w : World) (ht : w.heap[tb]? = some (treeObj m sv)) (hrow : w.ownsRow 0 24 1 sv n xs) (hn : n ≤ 1000) :
    Calls Try.prog 13 #[.pointer (some ⟨tb, 0, none⟩), .pointer (pp.map fun p => ⟨p, 0, none⟩), .int .i64 beats] w fun e w' =>
      e = .returned (.pointer (some ⟨w.heap.size + 1, 0, none⟩)) ∧ ∃ sv', w'.heap[tb]? = some (treeObj m sv') ∧ w'.ownsRow 0 24 1 sv' (n + 1) (xs ++ [.pointer (some ⟨w.heap.size + 1, 0, none⟩)]) ∧
        (∀ k, sv'.ownBlock = some k → sv.ownBlock = some k ∨ w.heap.size ≤ k) ∧ w'.heap[w.heap.size + 1]? = some (stopObj tb pp beats 0 w.heap.size) ∧ w'.heap[w.heap.size]? = some (chanObj 0) ∧ Same (fun k => k = tb ∨ sv.ownBlock = some k) w w' := by
  have hmk := mkChan
  obtain ⟨i0, hi0, hz0, hz1, hz2⟩ := info_parts Try.infoP
  have hne : sv.ownBlock ≠ some tb := by
    intro hk
    obtain ⟨cur, hc⟩ := row_block hrow hk
    rw [ht] at hc
    simp [treeObj] at hc
  have htl := lt_of_heap ht
  -- the worlds: with the channel and the stop; with the list of the one
  have s2 : Same (fun k => k = tb ∨ sv.ownBlock = some k) w ((w.alloc (.chan 0 #[] false 0 0 false)).alloc (.cells #[.pointer (some ⟨tb, 0, none⟩), .pointer (pp.map fun p => ⟨p, 0, none⟩), .int .i64 beats, .int .i64 0, .chan (some w.heap.size), .int .u32 0, .int .i32 0, .int .u32 0] 63)) := ((Same.refl _ w).alloc _).alloc _
  have t2 : ((w.alloc (.chan 0 #[] false 0 0 false)).alloc (.cells #[.pointer (some ⟨tb, 0, none⟩), .pointer (pp.map fun p => ⟨p, 0, none⟩), .int .i64 beats, .int .i64 0, .chan (some w.heap.size), .int .u32 0, .int .i32 0, .int .u32 0] 63)).heap[tb]? = some (treeObj m sv) := by
    rw [Below.heap_alloc _ _ _ (by simp; omega), Below.heap_alloc _ _ _ htl]; exact ht
  have n2 : ((w.alloc (.chan 0 #[] false 0 0 false)).alloc (.cells #[.pointer (some ⟨tb, 0, none⟩), .pointer (pp.map fun p => ⟨p, 0, none⟩), .int .i64 beats, .int .i64 0, .chan (some w.heap.size), .int .u32 0, .int .i32 0, .int .u32 0] 63)).heap.size = w.heap.size + 2 := by simp
  have k2 : ((w.alloc (.chan 0 #[] false 0 0 false)).alloc (.cells #[.pointer (some ⟨tb, 0, none⟩), .pointer (pp.map fun p => ⟨p, 0, none⟩), .int .i64 beats, .int .i64 0, .chan (some w.heap.size), .int .u32 0, .int .i32 0, .int .u32 0] 63)).heap[w.heap.size]? = some (chanObj 0) := by
    rw [Below.heap_alloc _ _ _ (by simp)]; exact heap_alloc_new w _
  have o2 : ((w.alloc (.chan 0 #[] false 0 0 false)).alloc (.cells #[.pointer (some ⟨tb, 0, none⟩), .pointer (pp.map fun p => ⟨p, 0, none⟩), .int .i64 beats, .int .i64 0, .chan (some w.heap.size), .int .u32 0, .int .i32 0, .int .u32 0] 63)).heap[w.heap.size + 1]? = some (stopObj tb pp beats 0 w.heap.size) := by
    have := heap_alloc_new (w.alloc (.chan 0 #[] false 0 0 false)) (.cells #[.pointer (some ⟨tb, 0, none⟩), .pointer (pp.map fun p => ⟨p, 0, none⟩), .int .i64 beats, .int .i64 0, .chan (some w.heap.size), .int .u32 0, .int .i32 0, .int .u32 0] 63)
    rw [World.size_alloc] at this
    exact this
  have r2 : ((w.alloc (.chan 0 #[] false 0 0 false)).alloc (.cells #[.pointer (some ⟨tb, 0, none⟩), .pointer (pp.map fun p => ⟨p, 0, none⟩), .int .i64 beats, .int .i64 0, .chan (some w.heap.size), .int .u32 0, .int .i32 0, .int .u32 0] 63)).ownsRow 0 24 1 sv n xs := (hrow.alloc _).alloc _
  have c2 := (cell_of t2 2).trans (show _ = some sv from rfl)
  have hblt : ∀ k, sv.ownBlock = some k → k < w.heap.size := fun k hk => (hrow.lt k hk).2
  have HN : Hid (∀ k, sv.ownBlock = some k → k < w.heap.size) := hblt
  have HT : Hid _ := t2
  have HK : Hid _ := k2
  have HO : Hid _ := o2
  have H2 : Hid _ := n2
  clear hblt t2 k2 o2 n2
  have hnews : ∀ j u, [Value.pointer (some ⟨w.heap.size + 1, 0, none⟩)][j]? = some u → (((w.alloc (.chan 0 #[] false 0 0 false)).alloc (.cells #[.pointer (some ⟨tb, 0, none⟩), .pointer (pp.map fun p => ⟨p, 0, none⟩), .int .i64 beats, .int .i64 0, .chan (some w.heap.size), .int .u32 0, .int .i32 0, .int .u32 0] 63)).alloc (.cells #[.pointer (some ⟨w.heap.size + 1, 0, none⟩)] 24)).cell? ((⟨w.heap.size + 1 + 1, 0, none⟩ : Addr).add j) = some u := by
    have := cell_one_new ((w.alloc (.chan 0 #[] false 0 0 false)).alloc (.cells #[.pointer (some ⟨tb, 0, none⟩), .pointer (pp.map fun p => ⟨p, 0, none⟩), .int .i64 beats, .int .i64 0, .chan (some w.heap.size), .int .u32 0, .int .i32 0, .int .u32 0] 63)) (.pointer (some ⟨w.heap.size + 1, 0, none⟩)) 24
    simpa only [World.size_alloc] using this
  have HW : Hid _ := hnews
  clear hnews
  go_enter Try.func13, Try.ntmps13
  go_wp2_with (at_builtin; go_loud (refine wpList_append_own_at _ rfl (.tmp 18) (.tmp 20) 33 rfl 0 24 i0 (.pointer none) 1 8 Try.underlying33 hi0 hz0 hz1 hz2 rfl (by decide) sv n xs rfl (r2.alloc _) ⟨w.heap.size + 1 + 1, 0, none⟩ 1 1 [.pointer (some ⟨w.heap.size + 1, 0, none⟩)] rfl rfl HW.out (by simp [Value.oneCell']) (by unfold maxLen; omega) (by omega) (Nat.zero_le _) ?_; intro v' w1 hown' hgrow hnil hat)
               obtain ⟨g', cap', rfl⟩ := row_slice hown'
               have b3 : w1.heap[tb]? = some (treeObj m sv) := (hgrow.block tb (by simp; omega) hne.symm).trans ((Below.heap_alloc _ _ _ (by simp; omega)).trans HT.out)
               have c3 : w1.cell? ⟨tb, 2, none⟩ = some sv := (cell_of b3 2).trans rfl
               have f3 : w1.frozen? ⟨tb, 2, none⟩ = false := frozen_of b3 2)
  go_ret
  have k1 := (hgrow.block w.heap.size (by simp; omega) (fun e => by have := HN.out _ e.symm; omega)).trans ((Below.heap_alloc _ _ _ (by simp; omega)).trans HK.out)
  have o1 := (hgrow.block (w.heap.size + 1) (by simp) (fun e => by have := HN.out _ e.symm; omega)).trans ((Below.heap_alloc _ _ _ (by simp)).trans HO.out)
  have hg' : g' ≠ tb := fun e => by
    obtain ⟨cur, hc⟩ := row_block hown' (k := g') rfl
    rw [e, b3] at hc
    simp [treeObj] at hc
  refine ⟨rfl, _, (setCell_at b3 2 _).trans rfl, row_kept hown' fun k hk => Below.heap_setCell _ _ _ _ (fun e => hg' ((show g' = k by simpa [Value.ownBlock] using hk).trans e)), ?_, (Below.heap_setCell _ _ _ _ (by simp; omega)).trans o1, (Below.heap_setCell _ _ _ _ (by simp; omega)).trans k1, ?_⟩
  · intro k hk
    rcases hat with h | h
    · exact .inl (h ▸ hk)
    · rw [h] at hk
      simp at hk
      exact .inr (by omega)
  · refine Same.setCell ?_ _ (.inr (.inl rfl)) _
    exact (s2.alloc _).trans' ⟨hgrow.os, hgrow.tape, hgrow.output, hgrow.size, fun k hk hn => hgrow.block k hk fun e => hn (.inr e.symm)⟩
end Go.Proofs.Ytkkkndbfokjikab
