/- What is proved: sets of nodes as words, tables of them: how many words, a new set, a new table, a row, a node put in, a node asked, a label in a mask; numbers are in their bounds. -/
import Derived.Test.YtbhihmkgimdjpaaDoorGhG
import Derived.Laws.MakeOwn
import Derived.Laws.Bits64b
namespace Go.Proofs.YtbhihmkgimdjpaaDoor
open Go.RowKit

theorem make_words (w : World) (n : Nat) (hn : n ≤ 16384) : (Instr.makeSlice 73 (.int .i64 (n : Int)) (.int .i64 (n : Int))).run Tryd.prog w = .ok (.slice (some ⟨w.heap.size, 0, none⟩) n n) (w.alloc (.cells (madeCells #[.int .u64 0] n) 93)) := by
  obtain ⟨i0, hi0, hz0, hz1, hz2⟩ := info_parts Tryd.infoU64
  have hr := run_make (P := Tryd.prog) w 73 93 i0 _ Tryd.underlying73 hi0 hz0 .i64 .i64 n n (by omega) (by omega) (by rw [hz2]; omega) (by omega)
  have hc : (Value.int .u64 0).cells = #[.int .u64 0] := by rfl
  simp only [Int.toNat_natCast, hz1, hc, Nat.mul_one] at hr
  exact hr
theorem made_list (z : Value) (n : Nat) : (madeCells #[z] n).toList = List.replicate n z := by
  apply List.ext_getElem
  · simp [madeCells]
  · intro i h1 h2
    simp [madeCells, Nat.mod_one]
theorem fl_rep {α : Type} (enc : α → List Value) (v : Value) (x : α) (h : enc x = [v]) (n : Nat) : fl enc (List.replicate n x) = List.replicate n v := by
  induction n with
  | zero => rfl
  | succ n ih => rw [List.replicate_succ, fl_cons, ih, h]; rfl
theorem own_made1 {α : Type} {enc : α → List Value} (E : Ek enc 1) {T : TypeId} (x : α) (v : Value) (h : enc x = [v]) (w : World) (n : Nat) (hn : n ≤ maxLen) : Own enc 1 T w.heap.size (w.alloc (.cells (madeCells #[v] n) T)) (.slice (some ⟨w.heap.size, 0, none⟩) n n) (List.replicate n x) := by
  refine ⟨by rw [length_fl E], .inr ⟨w.heap.size, n, _, by rw [List.length_replicate], Nat.le_refl _, heap_new w _, by rw [List.length_replicate]; exact Nat.le_refl _, hn, by simp [madeCells], ?_⟩⟩
  rw [List.length_replicate, Nat.mul_one, made_list, fl_rep enc v x h]
  rw [List.take_of_length_le (by simp)]
theorem own_words (w : World) (n : Nat) (hn : n ≤ 16384) : OwnW w.heap.size (w.alloc (.cells (madeCells #[.int .u64 0] n) 93)) (.slice (some ⟨w.heap.size, 0, none⟩) n n) (List.replicate n 0) :=
  own_made1 ekU 0 _ rfl w n (by unfold maxLen; omega)
theorem Own.cell1 {α : Type} {enc : α → List Value} (E : Ek enc 1) {T : TypeId} {base : Nat} {w : World} {g m cap : Nat} {l : List α} (h : Own enc 1 T base w (.slice (some ⟨g, 0, none⟩) m cap) l) {j : Nat} {x : α} {v : Value} (hx : l[j]? = some x) (hv : enc x = [v]) : w.cell? ⟨g, j, none⟩ = some v ∧ w.frozen? ⟨g, j, none⟩ = false ∧ g < w.heap.size := by
  obtain ⟨b, o, e, hb, hc⟩ := h.at E j x hx
  cases e
  have h1 := hc 0 v (by rw [hv]; rfl)
  rw [Nat.mul_one, Nat.zero_add, Nat.add_zero] at h1
  obtain ⟨-, cur, hg⟩ := h.block (b := g) rfl
  exact ⟨h1, frozen_of hg j, hb⟩
theorem Own.set1 {α : Type} {enc : α → List Value} (E : Ek enc 1) {T : TypeId} {base : Nat} {w : World} {g m cap : Nat} {l : List α} (h : Own enc 1 T base w (.slice (some ⟨g, 0, none⟩) m cap) l) {j : Nat} (hj : j < l.length) (x : α) {v : Value} (hv : enc x = [v]) : Own enc 1 T base (w.setCell ⟨g, j, none⟩ v) (.slice (some ⟨g, 0, none⟩) m cap) (l.set j x) ∧ Same (fun b => b = g) w (w.setCell ⟨g, j, none⟩ v) := by
  obtain ⟨-, h1, h2⟩ := h.put E hj x Tryd.prog
  rw [hv, Nat.mul_one] at h1 h2
  exact ⟨h1, h2⟩
theorem Own.drewN {α : Type} {enc : α → List Value} {k : Nat} {T : TypeId} {base : Nat} {w : World} {v : Value} {l : List α} (h : Own enc k T base w v l) (n : Nat) : Own enc k T base (w.drewN n) v l := h.on (Same.drewN (Same.refl _ w) n)
set_option maxRecDepth 100000 in
theorem words19 (n : Nat) (hn : n ≤ 1024) (w : World) : Calls Tryd.prog 53 #[.int .i64 (n : Int)] w fun e w' => e = .returned (.int .i64 (wN n : Nat)) ∧ w' = w := by
  have e2 : ((wN n : Nat) : Int) = ((n : Int) + 63) / 64 := by unfold wN; omega
  rw [e2]
  go_enter Tryd.func53, Tryd.ntmps53
  go_wp2_with fail
  go_ret
  exact ⟨rfl, rfl⟩
set_option maxRecDepth 100000 in
theorem newSet19 (n : Nat) (hn : n ≤ 1024) (w : World) : Calls Tryd.prog 38 #[.int .i64 (n : Int)] w fun e w' => e = .returned (.slice (some ⟨w.heap.size, 0, none⟩) (wN n) (wN n)) ∧ w' = w.alloc (.cells (madeCells #[.int .u64 0] (wN n)) 93) := by
  have HW : Hid (∀ W, _) := fun W => words19 n hn W
  have hm := fun W => make_words W (wN n) (by have := wN_le hn; omega)
  go_enter Tryd.func38, Tryd.ntmps38
  go_wp2_with fail
  refine Calls.mono (HW.out _) ?_
  rintro r w1 ⟨rfl, rfl⟩
  go_wp2_with fail
  go_ret
  exact ⟨rfl, rfl⟩
theorem results_g {fn : Func} {a t : Nat} {P : Program} {w : World} {tmps : Array Value} {ad : Addr} {v : Value} (h : fn.results = #[.cell a t]) (ha : tmps.getD a undef = .pointer (some ad)) (hv : (loadVar t ad).run P w = .ok v w) : (results fn tmps).run P w = .ok v w := by
  have ha' : tmps[a]?.getD undef = .pointer (some ad) := by simpa using ha
  simp [results, h, ha', asAddr, hv]
theorem results_gt {fn : Func} {a t u : Nat} {P : Program} {w : World} {tmps : Array Value} {ad : Addr} {v : Value} (h : fn.results = #[.cell a t, .tmp u]) (ha : tmps.getD a undef = .pointer (some ad)) (hv : (loadVar t ad).run P w = .ok v w) : (results fn tmps).run P w = .ok (.tuple #[v, tmps.getD u undef]) w := by
  have ha' : tmps[a]?.getD undef = .pointer (some ad) := by simpa using ha
  simp [results, h, ha', asAddr, hv]
abbrev tbV (n : Int) (g m c : Nat) : Value := .agg #[.int .i64 n, .slice (some ⟨g, 0, none⟩) m c]
abbrev tbO (n : Int) (g m c : Nat) : Obj := .cells #[.int .i64 n, .slice (some ⟨g, 0, none⟩) m c] 75 (0, 0)
theorem w_small {q : Nat} (h : q ≤ 1000000) : wrap64 (q : Int) = (q : Int) := by unfold wrap64; omega
theorem w_small2 {q : Nat} (h : q ≤ 1000000) : IntKind.i64.wrap (q : Int) = (q : Int) := by rw [IntKind.wrap_i64]; omega
theorem node_facts (y : Nat) (hy : y ≤ 1024) : ∃ q b : Nat, q = y / 64 ∧ b = y % 64 ∧ b < 64 ∧ q ≤ 16 ∧ (y : Int).tdiv 64 = (q : Int) ∧ (y : Int).tmod 64 = (b : Int) ∧ wrap64 (q : Int) = (q : Int) ∧ IntKind.i64.wrap (q : Int) = (q : Int) ∧ wrap64 (b : Int) = (b : Int) ∧ IntKind.i64.wrap (b : Int) = (b : Int) := by
  have h1 : y / 64 ≤ 16 := by omega
  have h2 : y % 64 < 64 := Nat.mod_lt _ (by decide)
  refine ⟨y / 64, y % 64, rfl, rfl, h2, h1, ?_, ?_, w_small (by omega), w_small2 (by omega), w_small (by omega), w_small2 (by omega)⟩
  · rw [Int.tdiv_eq_ediv_of_nonneg (by omega)]; rfl
  · rw [Int.tmod_eq_emod_of_nonneg (by omega)]; rfl
theorem mul_w {a b : Nat} (h : a * b ≤ 1000000) : wrap64 ((a : Int) * (b : Nat)) = ((a * b : Nat) : Int) := by rw [← Int.natCast_mul]; exact w_small h
theorem load_tb {W : World} {g h m c : Nat} {n : Int} (hW : W.heap[g]? = some (tbO n h m c)) : (loadVar 75 ⟨g, 0, none⟩).run Tryd.prog W = .ok (tbV n h m c) W := by
  have c0 := (cell_of hW 0).trans (show (#[Value.int .i64 n, .slice (some ⟨h, 0, none⟩) m c] : Array Value)[0]? = some (.int .i64 n) from rfl)
  have c1 := (cell_of hW 1).trans (show (#[Value.int .i64 n, .slice (some ⟨h, 0, none⟩) m c] : Array Value)[1]? = some (.slice (some ⟨h, 0, none⟩) m c) from rfl)
  go_simp
theorem bit_at (x b : Nat) (hx : x < 18446744073709551616) : (bits .and .u64 ((x : Int) / 2 ^ b) 1 == 1) = x.testBit b := by
  have e : ((x : Int) / 2 ^ b) = ((x / 2 ^ b : Nat) : Int) := by rw [Int.natCast_ediv, Int.natCast_pow]; rfl
  have h := bits_and_u64_nat (x / 2 ^ b) 1 (Nat.lt_of_le_of_lt (Nat.div_le_self _ _) hx) (by decide)
  rw [e, show ((1 : Int)) = ((1 : Nat) : Int) from rfl, h, Nat.and_one_is_mod, Bool.eq_iff_iff, ← bit_read]
  simp only [beq_iff_eq]
  omega
theorem odd_at (x : Int) : (bits .and .i64 x 1 == 1) = decide (x % 2 = 1) := by
  show (IntKind.i64.wrap ((BitVec.ofInt 64 x &&& BitVec.ofInt 64 1).toNat : Int) == 1) = _
  rw [BitVec.toNat_and, show (BitVec.ofInt 64 1).toNat = 1 from rfl, Nat.and_one_is_mod, BitVec.toNat_ofInt, IntKind.wrap_i64, Bool.eq_iff_iff]
  simp only [beq_iff_eq, decide_eq_true_eq]
  omega
set_option maxRecDepth 100000 in
set_option maxHeartbeats 800000 in
theorem newTable19 (n : Nat) (hn : n ≤ 1024) (w : World) : Calls Tryd.prog 49 #[.int .i64 (n : Int)] w fun e w' => e = .returned (tbV n (w.heap.size + 1) (n * wN n) (n * wN n)) ∧ OwnW (w.heap.size + 1) w' (.slice (some ⟨w.heap.size + 1, 0, none⟩) (n * wN n) (n * wN n)) (List.replicate (n * wN n) 0) ∧ Kept w w' := by
  have HW : Hid (∀ W, _) := fun W => words19 n hn W
  have hb := tab_le hn
  have hm := fun W => make_words W (n * wN n) hb
  have hmul : wrap64 ((n : Int) * (wN n : Nat)) = ((n * wN n : Nat) : Int) := mul_w (by omega)
  have HO : Hid (∀ W : World, _) := fun W => own_words W (n * wN n) hb
  obtain ⟨P, eP⟩ : ∃ P, P = n * wN n := ⟨_, rfl⟩
  simp only [← eP] at hmul hm HO hb ⊢
  clear eP
  go_enter Tryd.func49, Tryd.ntmps49
  go_wp2_with fail
  refine Calls.mono (HW.out _) ?_
  rintro r w1 ⟨rfl, rfl⟩
  go_wp2_with fail
  have HO1 := HO.out (w.alloc (tbO n (w.heap.size + 1) P P))
  rw [World.size_alloc] at HO1
  have hg : ((w.alloc (tbO n (w.heap.size + 1) P P)).alloc (.cells (madeCells #[.int .u64 0] P) 93)).heap[w.heap.size]? = some (tbO n (w.heap.size + 1) P P) := (heap_old _ _ (by rw [World.size_alloc]; omega)).trans (heap_new w _)
  exact bodyPost_ret (results_g rfl rfl (load_tb hg)) rfl ⟨rfl, HO1, ((Same.refl _ w).alloc _).alloc _⟩
set_option maxRecDepth 100000 in
set_option maxHeartbeats 800000 in
theorem has19 (w : World) (g off m cap x y : Nat) (hy : y ≤ 1024) (hm : y / 64 < m) (hx : x < 18446744073709551616) (hc : w.cell? ⟨g, off + y / 64, none⟩ = some (.int .u64 (x : Nat))) : Calls Tryd.prog 39 #[.slice (some ⟨g, off, none⟩) m cap, .int .i64 (y : Int)] w fun e w' => e = .returned (.bool (x.testBit (y % 64))) ∧ w' = w := by
  obtain ⟨q, b, eq, eb, hb, hq, e1, e2, hwq, hwq2, hwb, hwb2⟩ := node_facts y hy
  rw [← eq] at hc hm
  rw [← eb]
  clear eq eb hq
  have hq0 : (0 : Int) ≤ (q : Int) := Int.natCast_nonneg q
  have hqm : (q : Int) < (m : Int) := Int.ofNat_lt.2 hm
  go_enter Tryd.func39, Tryd.ntmps39
  go_wp2_with fail
  rw [bit_at x b hx]
  go_ret
  exact ⟨rfl, rfl⟩
theorem or_at (x b : Nat) (hx : x < 18446744073709551616) (hb : b < 64) : bits .or .u64 (x : Int) (IntKind.u64.wrap (2 ^ b)) = ((x ||| 2 ^ b : Nat) : Int) := by
  have h2 : 2 ^ b < 18446744073709551616 := Nat.pow_lt_pow_right (by decide) hb
  have e : IntKind.u64.wrap (2 ^ b) = ((2 ^ b : Nat) : Int) := by
    rw [IntKind.wrap_u64, Int.natCast_pow, show ((2 : Nat) : Int) = 2 from rfl]
    have h3 : ((2 ^ b : Nat) : Int) < 18446744073709551616 := by omega
    rw [Int.natCast_pow, show ((2 : Nat) : Int) = 2 from rfl] at h3
    have h4 : (0 : Int) ≤ 2 ^ b := Int.le_of_lt (Int.pow_pos (by decide))
    omega
  rw [e]
  exact bits_or_u64_nat x (2 ^ b) hx h2
set_option maxRecDepth 100000 in
set_option maxHeartbeats 800000 in
theorem put19 (w : World) (g off m cap x y : Nat) (hy : y ≤ 1024) (hm : y / 64 < m) (hx : x < 18446744073709551616) (hc : w.cell? ⟨g, off + y / 64, none⟩ = some (.int .u64 (x : Nat))) (hf : w.frozen? ⟨g, off + y / 64, none⟩ = false) : Calls Tryd.prog 40 #[.slice (some ⟨g, off, none⟩) m cap, .int .i64 (y : Int)] w fun e w' => e = .returned (.tuple #[]) ∧ ∃ q, w' = (w.setCell ⟨g, off + y / 64, none⟩ (.int .u64 ((x ||| 2 ^ (y % 64) : Nat) : Int))).drewN q := by
  obtain ⟨q, b, eq, eb, hb, hq, e1, e2, hwq, hwq2, hwb, hwb2⟩ := node_facts y hy
  rw [← eq] at hc hm hf
  rw [← eb, ← eq]
  clear eq eb hq
  have hq0 : (0 : Int) ≤ (q : Int) := Int.natCast_nonneg q
  have hqm : (q : Int) < (m : Int) := Int.ofNat_lt.2 hm
  go_enter Tryd.func40, Tryd.ntmps40
  go_region
  rw [or_at x b hx hb]
  go_end0
  exact ⟨rfl, 1, rfl⟩
set_option maxRecDepth 100000 in
set_option maxHeartbeats 800000 in
theorem over19 (e : Eg) (m : Int) (h1 : 1 ≤ e.l) (h8 : e.l ≤ 8) (w : World) : Calls Tryd.prog 50 #[egV e, .int .i64 m] w fun r w' => r = .returned (.bool (inM e.l m)) ∧ Grw w w' := by
  obtain ⟨f, t, l⟩ := e
  simp only at h1 h8 ⊢
  go_enter Tryd.func50, Tryd.ntmps50
  go_wp2_with fail
  rw [odd_at, show l.toNat - 1 = (l - 1).toNat by omega]
  go_ret
  exact ⟨rfl, (Grw.refl w).alloc _⟩
set_option maxRecDepth 100000 in
set_option maxHeartbeats 800000 in
theorem row19 (n a g : Nat) (hn : n ≤ 1024) (ha : a < n) (w : World) : Calls Tryd.prog 51 #[tbV n g (n * wN n) (n * wN n), .int .i64 (a : Int)] w fun r w' => (∃ cap, r = .returned (.slice (some ⟨g, a * wN n, none⟩) (wN n) cap)) ∧ Grw w w' := by
  have HW : Hid (∀ W, _) := fun W => words19 n hn W
  have hb := tab_le hn
  have hl := row_le ha
  have hwp : 1 ≤ wN n := by have := wN_lt ha; omega
  obtain ⟨N, eN⟩ : ∃ N, N = n * wN n := ⟨_, rfl⟩
  obtain ⟨P, eP⟩ : ∃ P, P = a * wN n := ⟨_, rfl⟩
  obtain ⟨W, eW⟩ : ∃ W, W = wN n := ⟨_, rfl⟩
  have hm1 : wrap64 ((a : Int) * (W : Nat)) = (P : Int) := by rw [eP, eW]; exact mul_w (by omega)
  have hm2 : wrap64 (((a : Int) + 1) * (W : Nat)) = ((P + W : Nat) : Int) := by
    have := mul_w (a := a + 1) (b := W) (by rw [eW, Nat.add_mul, Nat.one_mul]; omega)
    rw [Nat.add_mul, Nat.one_mul] at this
    rw [show ((a : Int) + 1) = ((a + 1 : Nat) : Int) from rfl, this, eP, eW]
  rw [← eN, ← eP, ← eW] at hl
  rw [← eW] at hwp
  rw [← eN] at hb
  rw [← eN, ← eP, ← eW]
  rw [← eW] at HW
  clear eN eP eW
  have b1 : (0 : Int) ≤ ((P + W : Nat) : Int) ∧ ((P + W : Nat) : Int) ≤ (N : Int) := by omega
  have b2 : (0 : Int) ≤ (P : Int) ∧ (P : Int) ≤ ((P + W : Nat) : Int) := by omega
  have b3 : P + W - P = W := by omega
  generalize hPW : P + W = Q at *
  go_enter Tryd.func51, Tryd.ntmps51
  go_wp2_with fail
  refine Calls.mono (HW.out _) ?_
  rintro r w1 ⟨rfl, rfl⟩
  go_wp2_with fail
  go_ret
  exact ⟨⟨_, rfl⟩, (Grw.refl w).alloc _⟩
end Go.Proofs.YtbhihmkgimdjpaaDoor
