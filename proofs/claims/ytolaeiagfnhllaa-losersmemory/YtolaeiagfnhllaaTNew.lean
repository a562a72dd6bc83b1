/- What is proved: New makes a tree of as many sources as are asked for, all of which wait, and refuses what the document refuses; no condition. -/
import Derived.Test.YtolaeiagfnhllaaTEnter
namespace Go.Proofs.Ytolaeiagfnhllaa
open Go.RowKit

theorem Try.infoSrce : (Try.prog.info? 77).map (fun i => (i.zero, i.size, i.bytes)) = some (some (.agg #[.int .i64 0, .int .i64 0, .int .i64 0, .int .i64 0, .int .i64 0, .int .i64 0, .int .i64 0, .string .empty]), 8, 72) := by kernel_rfl
theorem Try.infoInt11 : (Try.prog.info? 3).map (fun i => (i.zero, i.size, i.bytes)) = some (some (.int .i64 0), 1, 8) := by kernel_rfl
def zs : Array Value := #[.int .i64 0, .int .i64 0, .int .i64 0, .int .i64 0, .int .i64 0, .int .i64 0, .int .i64 0, .string .empty]
theorem srcs_append (a b : List Sr) : srcs (a ++ b) = srcs a ++ srcs b := by simp [srcs]
theorem made_srcs (n : Nat) : madeCells zs (n * 8) = (srcs (List.replicate n .wait)).toArray := by
  apply Array.ext'
  unfold madeCells
  rw [Array.toList_map, Array.toList_range]
  show _ = srcs (List.replicate n .wait)
  induction n with
  | zero => rfl
  | succ n ih =>
    rw [List.replicate_succ', srcs_append, ← ih, show (n + 1) * 8 = n * 8 + 1 + 1 + 1 + 1 + 1 + 1 + 1 + 1 by omega, List.range_succ, List.range_succ, List.range_succ, List.range_succ, List.range_succ, List.range_succ, List.range_succ, List.range_succ]
    simp only [List.map_append, List.append_assoc, List.map_cons, List.map_nil]
    congr 1
    rw [show (n * 8) % zs.size = 0 by show (n * 8) % 8 = 0; omega, show (n * 8 + 1) % zs.size = 1 by show (n * 8 + 1) % 8 = 1; omega, show (n * 8 + 1 + 1) % zs.size = 2 by show (n * 8 + 1 + 1) % 8 = 2; omega, show (n * 8 + 1 + 1 + 1) % zs.size = 3 by show (n * 8 + 1 + 1 + 1) % 8 = 3; omega, show (n * 8 + 1 + 1 + 1 + 1) % zs.size = 4 by show (n * 8 + 1 + 1 + 1 + 1) % 8 = 4; omega, show (n * 8 + 1 + 1 + 1 + 1 + 1) % zs.size = 5 by show (n * 8 + 1 + 1 + 1 + 1 + 1) % 8 = 5; omega, show (n * 8 + 1 + 1 + 1 + 1 + 1 + 1) % zs.size = 6 by show (n * 8 + 1 + 1 + 1 + 1 + 1 + 1) % 8 = 6; omega, show (n * 8 + 1 + 1 + 1 + 1 + 1 + 1 + 1) % zs.size = 7 by show (n * 8 + 1 + 1 + 1 + 1 + 1 + 1 + 1) % 8 = 7; omega]
    rfl
theorem make_srcs (w : World) (n : Nat) (hn : n ≤ 64) : (Instr.makeSlice 61 (.int .i64 (n : Int)) (.int .i64 (n : Int))).run Try.prog w = .ok (.slice (some ⟨w.heap.size, 0, none⟩) n n) (w.alloc (.cells (srcs (List.replicate n .wait)).toArray 77)) := by
  obtain ⟨i0, hi0, hz0, hz1, hz2⟩ := info_parts Try.infoSrce
  have hr := run_make (P := Try.prog) w 61 77 i0 _ Try.underlying61 hi0 hz0 .i64 .i64 n n (by omega) (by omega) (by rw [hz2]; omega) (by omega)
  have hc : (Value.agg zs).cells = zs := by rfl
  simp only [Int.toNat_natCast, hz1] at hr
  rw [show (Value.agg #[.int .i64 0, .int .i64 0, .int .i64 0, .int .i64 0, .int .i64 0, .int .i64 0, .int .i64 0, .string .empty]).cells = zs from hc, made_srcs] at hr
  exact hr
theorem made_ints (n : Nat) : madeCells #[.int .i64 0] n = (inz (List.replicate n 0)).toArray := by
  apply Array.ext'
  unfold madeCells
  rw [Array.toList_map, Array.toList_range]
  show _ = inz (List.replicate n 0)
  refine List.ext_getElem (by simp [inz]) fun i h1 h2 => ?_
  simp [inz, Nat.mod_one]
theorem make_ints (w : World) (n : Nat) (hn : n ≤ 4194304) : (Instr.makeSlice 49 (.int .i64 (n : Int)) (.int .i64 (n : Int))).run Try.prog w = .ok (.slice (some ⟨w.heap.size, 0, none⟩) n n) (w.alloc (.cells (inz (List.replicate n 0)).toArray 3)) := by
  rw [← made_ints]
  exact run_make_row' (P := Try.prog) 49 3 (.int .i64 0) 8 Try.underlying49 Try.infoInt11 rfl .i64 .i64 n (by omega) (by omega) w
theorem wts_new (k : Nat) : wts (List.replicate k .wait) = k := by
  rw [wts, List.countP_replicate, if_pos (by rfl)]
/-- A tree in memory whose nodes are right. -/
def Tn (w : World) (b gs gn : Nat) (order : Int) (S : List Sr) : Prop := ∃ nd, Tr w b gs gn order S nd ∧ ∃ win, Trn order S nd win
theorem Tn.onS {T : Nat → Prop} {w w' : World} {b gs gn : Nat} {order : Int} {S : List Sr} (h : Tn w b gs gn order S) (k : Same T w w') (h1 : ¬ T b) (h2 : ¬ T gs) (h3 : ¬ T gn) : Tn w' b gs gn order S := by
  obtain ⟨nd, h4, h5⟩ := h
  exact ⟨nd, h4.onS k h1 h2 h3, h5⟩
theorem Tn.on {w w' : World} {b gs gn : Nat} {order : Int} {S : List Sr} (h : Tn w b gs gn order S) (k : Kept w w') : Tn w' b gs gn order S := h.onS k (fun e => e) (fun e => e) (fun e => e)
theorem Tn.lt {w : World} {b gs gn : Nat} {order : Int} {S : List Sr} (h : Tn w b gs gn order S) : b < w.heap.size ∧ gs < w.heap.size ∧ gn < w.heap.size := by
  obtain ⟨nd, h4, h5⟩ := h
  exact ⟨lt_of_heap h4.obj, lt_of_heap h4.src, lt_of_heap h4.nod⟩
theorem Tn.k {w : World} {b gs gn : Nat} {order : Int} {S : List Sr} (h : Tn w b gs gn order S) : 0 < S.length ∧ S.length ≤ 64 := by
  obtain ⟨nd, h4, h5⟩ := h
  exact ⟨h4.k0, h4.k1⟩
set_option maxRecDepth 100000 in
theorem new11_order {order : Int} (ho : ¬ (order = 1 ∨ order = 2)) (k : Int) (w : World) : Calls Try.prog 10 #[.int .i64 order, .int .i64 k] w fun e w' => e = .returned (.tuple #[.pointer none, .int .i64 91]) ∧ w' = w := by
  have d1 : (order != 1) = true := by simp; omega
  have d2 : (order != 2) = true := by simp; omega
  clear ho
  go_enter Try.func10, Try.ntmps10
  go_wp2_with fail
  go_ret2
  exact ⟨rfl, rfl⟩
set_option maxRecDepth 100000 in
theorem new11_fan {order : Int} (ho : order = 1 ∨ order = 2) {k : Int} (hk : k < 1 ∨ 64 < k) (w : World) : Calls Try.prog 10 #[.int .i64 order, .int .i64 k] w fun e w' => e = .returned (.tuple #[.pointer none, .int .i64 110]) ∧ w' = w := by
  have HK : Hid _ := hk
  clear hk
  rcases ho with rfl | rfl
  all_goals
    by_cases h1 : k < 1
    · have d1 : decide (k < 1) = true := decide_eq_true h1
      go_enter Try.func10, Try.ntmps10
      go_wp2_with fail
      go_ret2
      exact ⟨rfl, rfl⟩
    · have d1 : decide (k < 1) = false := decide_eq_false h1
      have h2 : 64 < k := by have := HK.out; omega
      have d2 : decide (64 < k) = true := decide_eq_true h2
      go_enter Try.func10, Try.ntmps10
      go_wp2_with fail
      go_ret2
      exact ⟨rfl, rfl⟩
/-- The nodes while the first q of them are written. -/
def ndq (k q : Nat) : List Int := List.replicate q (-1) ++ List.replicate (k - q) 0
theorem ndq_len {k q : Nat} (h : q ≤ k) : (ndq k q).length = k := by simp [ndq]; omega
theorem ndq_set {k q : Nat} (h : q < k) : (ndq k q).set q (-1) = ndq k (q + 1) := by
  unfold ndq
  rw [List.set_append_right _ _ (by simp), List.length_replicate, Nat.sub_self, List.replicate_succ', List.append_assoc]
  congr 1
  obtain ⟨m, hm⟩ : ∃ m, k - q = m + 1 := ⟨k - q - 1, by omega⟩
  rw [hm, show k - (q + 1) = m by omega, List.replicate_succ]
  rfl
theorem ndq_zero (k : Nat) : ndq k 0 = List.replicate k 0 := by simp [ndq]
theorem ndq_all (k : Nat) : ndq k k = List.replicate k (-1) := by simp [ndq]
theorem three_new (w : World) (o1 o2 o3 : Obj) : (((w.alloc o1).alloc o2).alloc o3).heap[w.heap.size]? = some o1 ∧ (((w.alloc o1).alloc o2).alloc o3).heap[w.heap.size + 1]? = some o2 ∧ (((w.alloc o1).alloc o2).alloc o3).heap[w.heap.size + 2]? = some o3 := by
  have h1 := heap_new w o1
  have h2 := heap_new (w.alloc o1) o2
  have h3 := heap_new ((w.alloc o1).alloc o2) o3
  have e1 := heap_old (w.alloc o1) o2 (k := w.heap.size) (by rw [World.size_alloc]; omega)
  have e2 := heap_old ((w.alloc o1).alloc o2) o3 (k := w.heap.size) (by rw [World.size_alloc, World.size_alloc]; omega)
  have e3 := heap_old ((w.alloc o1).alloc o2) o3 (k := w.heap.size + 1) (by rw [World.size_alloc, World.size_alloc]; omega)
  rw [World.size_alloc] at h2
  rw [World.size_alloc, World.size_alloc] at h3
  exact ⟨(e2.trans e1).trans h1, e3.trans h2, h3⟩
set_option maxRecDepth 100000 in
set_option maxHeartbeats 1600000 in
theorem new11_ok {order : Int} (ho : order = 1 ∨ order = 2) {k : Nat} (h0 : 1 ≤ k) (h1 : k ≤ 64) (w : World) : Calls Try.prog 10 #[.int .i64 order, .int .i64 (k : Int)] w fun e w' => ∃ b gs gn, e = .returned (.tuple #[.pointer (some ⟨b, 0, none⟩), .int .i64 0]) ∧ Tn w' b gs gn order (List.replicate k .wait) ∧ Kept w w' ∧ w.heap.size ≤ b ∧ w.heap.size ≤ gs ∧ w.heap.size ≤ gn := by
  have H0 : Hid _ := h0
  have H1 : Hid _ := h1
  have d1 : decide ((k : Int) < 1) = false := decide_eq_false (by omega)
  have d2 : decide ((64 : Int) < (k : Int)) = false := decide_eq_false (by omega)
  have d1' : ¬ (k : Int) < 1 := by omega
  have d2' : ¬ (64 : Int) < (k : Int) := by omega
  have k64 : (k : Int) ≤ 64 := by omega
  obtain ⟨b1, eb1⟩ : ∃ b1 : Bool, (order != 1) = b1 := ⟨_, rfl⟩
  have hpick : (if b1 = true then (order != 2) else false) = false := by
    subst eb1
    rcases ho with rfl | rfl <;> simp
  have hmS : ∀ W : World, (Instr.makeSlice 61 (.int .i64 (k : Int)) (.int .i64 (k : Int))).run Try.prog W = .ok (.slice (some ⟨W.heap.size, 0, none⟩) k k) (W.alloc (.cells (srcs (List.replicate k .wait)).toArray 77)) := fun W => make_srcs W k h1
  have hmI : ∀ W : World, (Instr.makeSlice 49 (.int .i64 (k : Int)) (.int .i64 (k : Int))).run Try.prog W = .ok (.slice (some ⟨W.heap.size, 0, none⟩) k k) (W.alloc (.cells (inz (List.replicate k 0)).toArray 3)) := fun W => make_ints W k (by omega)
  have HR : Hid (∀ (W : World) (b gs gn : Nat), W.heap[b]? = some (.cells #[.int .i64 order, .slice (some ⟨gs, 0, none⟩) k k, .slice (some ⟨gn, 0, none⟩) k k, .int .i64 (k : Int)] 63 (0, 0)) → W.heap[gs]? = some (.cells (srcs (List.replicate k .wait)).toArray 77 (0, 0)) → W.heap[gn]? = some (.cells (inz (List.replicate k 0)).toArray 3 (0, 0)) → Tr W b gs gn order (List.replicate k .wait) (ndq k 0)) := fun W b gs gn e1 e2 e3 =>
    ⟨by rw [wts_new, List.length_replicate]; exact e1, e2, by rw [ndq_zero]; exact e3, by rw [ndq_len (Nat.zero_le _), List.length_replicate], by rw [List.length_replicate]; omega, by rw [List.length_replicate]; exact h1⟩
  generalize (inz (List.replicate k 0)).toArray = AI at *
  generalize eAS : (srcs (List.replicate k .wait)).toArray = AS at *
  clear h0 h1
  rcases ho with rfl | rfl
  · clear eb1 hpick
    go_enter Try.func10, Try.ntmps10
    go_wp2_with fail
    go_region
    all_goals (go_wp2_with fail)
    all_goals
      go_loopw [33] (fun i wr => ∃ (q gs gn : Nat), q ≤ k ∧ i = .int .i64 (q : Int) ∧ Tr wr (w.heap.size + 2) gs gn 1 (List.replicate k .wait) (ndq k q) ∧ Kept w wr ∧ w.heap.size ≤ gs ∧ w.heap.size ≤ gn) (fun i _ => k - (intOf i).toNat)
      case atStart =>
        first
        | exact ⟨0, w.heap.size, w.heap.size + 1, Nat.zero_le _, rfl, (HR.out _ _ _ _ (three_new _ _ _ _).2.2 (three_new _ _ _ _).1 (three_new _ _ _ _).2.1).on (Same.refl _ _).drew, ((((Same.refl _ w).alloc _).alloc _).alloc _).drew, Nat.le_refl _, Nat.le_succ _⟩
        | exact ⟨0, w.heap.size + 1, w.heap.size, Nat.zero_le _, rfl, (HR.out _ _ _ _ (three_new _ _ _ _).2.2 (three_new _ _ _ _).2.1 (three_new _ _ _ _).1).on (Same.refl _ _).drew, ((((Same.refl _ w).alloc _).alloc _).alloc _).drew, Nat.le_succ _, Nat.le_refl _⟩
      case round =>
        obtain ⟨q, gs, gn, hq, rfl, tr, ks, g1, g2⟩ := hrel
        have TR : Hid _ := tr
        have KS : Hid _ := ks
        obtain ⟨⟨c0, c1, c2, c3⟩, -, hb⟩ := tr.cells
        rw [List.length_replicate] at c1 c2
        have hk64 := H1.out
        by_cases hlt : q < k
        · have e1 : decide ((q : Int) < (k : Int)) = true := decide_eq_true (by omega)
          have e1' : (q : Int) < (k : Int) := by omega
          have hcn := tr.nod_at (i := q) (by rw [List.length_replicate]; exact hlt)
          have hfn := (tr.nodF q).1
          have hgn := (tr.nodF 0).2
          have R : Hid _ := tr.setN q (-1)
          have hlt2 : Hid _ := hlt
          rw [ndq_set hlt] at R
          have HK : Hid (∀ W, Same (Ft (w.heap.size + 2) gs gn) wr W → Kept w W) := fun W k => ks.trans k fun i hi e => by
            rcases e with e | e | e <;> omega
          clear tr ks
          go_wp2_with fail
          go_roundw
          case rel => exact ⟨q + 1, gs, gn, hlt2.out, by rw [Int.natCast_add]; rfl, R.out.1, HK.out _ R.out.2, g1, g2⟩
          case measure => simp only [intOf]; omega
        · obtain rfl : k = q := by omega
          have e1 : decide ((k : Int) < (k : Int)) = false := by simp
          clear tr ks
          go_wp2_with fail
          go_ret2
          refine ⟨w.heap.size + 2, gs, gn, rfl, ⟨ndq k k, TR.out, fun _ => none, ?_⟩, KS.out, by omega, g1, g2⟩
          rw [ndq_all]; exact Trn.new _ _
  · clear eb1 hpick
    go_enter Try.func10, Try.ntmps10
    go_wp2_with fail
    go_region
    all_goals (go_wp2_with fail)
    all_goals
      go_loopw [33] (fun i wr => ∃ (q gs gn : Nat), q ≤ k ∧ i = .int .i64 (q : Int) ∧ Tr wr (w.heap.size + 2) gs gn 2 (List.replicate k .wait) (ndq k q) ∧ Kept w wr ∧ w.heap.size ≤ gs ∧ w.heap.size ≤ gn) (fun i _ => k - (intOf i).toNat)
      case atStart =>
        first
        | exact ⟨0, w.heap.size, w.heap.size + 1, Nat.zero_le _, rfl, (HR.out _ _ _ _ (three_new _ _ _ _).2.2 (three_new _ _ _ _).1 (three_new _ _ _ _).2.1).on (Same.refl _ _).drew, ((((Same.refl _ w).alloc _).alloc _).alloc _).drew, Nat.le_refl _, Nat.le_succ _⟩
        | exact ⟨0, w.heap.size + 1, w.heap.size, Nat.zero_le _, rfl, (HR.out _ _ _ _ (three_new _ _ _ _).2.2 (three_new _ _ _ _).2.1 (three_new _ _ _ _).1).on (Same.refl _ _).drew, ((((Same.refl _ w).alloc _).alloc _).alloc _).drew, Nat.le_succ _, Nat.le_refl _⟩
      case round =>
        obtain ⟨q, gs, gn, hq, rfl, tr, ks, g1, g2⟩ := hrel
        have TR : Hid _ := tr
        have KS : Hid _ := ks
        obtain ⟨⟨c0, c1, c2, c3⟩, -, hb⟩ := tr.cells
        rw [List.length_replicate] at c1 c2
        have hk64 := H1.out
        by_cases hlt : q < k
        · have e1 : decide ((q : Int) < (k : Int)) = true := decide_eq_true (by omega)
          have e1' : (q : Int) < (k : Int) := by omega
          have hcn := tr.nod_at (i := q) (by rw [List.length_replicate]; exact hlt)
          have hfn := (tr.nodF q).1
          have hgn := (tr.nodF 0).2
          have R : Hid _ := tr.setN q (-1)
          have hlt2 : Hid _ := hlt
          rw [ndq_set hlt] at R
          have HK : Hid (∀ W, Same (Ft (w.heap.size + 2) gs gn) wr W → Kept w W) := fun W k => ks.trans k fun i hi e => by
            rcases e with e | e | e <;> omega
          clear tr ks
          go_wp2_with fail
          go_roundw
          case rel => exact ⟨q + 1, gs, gn, hlt2.out, by rw [Int.natCast_add]; rfl, R.out.1, HK.out _ R.out.2, g1, g2⟩
          case measure => simp only [intOf]; omega
        · obtain rfl : k = q := by omega
          have e1 : decide ((k : Int) < (k : Int)) = false := by simp
          clear tr ks
          go_wp2_with fail
          go_ret2
          refine ⟨w.heap.size + 2, gs, gn, rfl, ⟨ndq k k, TR.out, fun _ => none, ?_⟩, KS.out, by omega, g1, g2⟩
          rw [ndq_all]; exact Trn.new _ _
end Go.Proofs.Ytolaeiagfnhllaa
