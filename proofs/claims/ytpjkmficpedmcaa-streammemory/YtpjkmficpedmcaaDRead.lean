/- What is proved: what the methods refuse, block and readStruck of a device do; the device lies in memory. -/
import Derived.Test.YtpjkmficpedmcaaDDev
import Derived.Deep.RegionHeld3
import Derived.Laws.StructEq
import Derived.BigQuiet
import Derived.Deep.QuietTactic
namespace Go.Proofs.Ytpjkmficpedmcaa
open Go.RowKit

set_option maxRecDepth 100000 in
set_option maxHeartbeats 400000 in
theorem refuse_down {w : World} {m : M} {p : Pl} (h : Dv w m p) (b n : Int) (hd : m.down = true) : Calls Try.prog 35 #[.pointer (some ⟨p.db, 0, none⟩), .int .i64 b, .int .i64 n] w fun e w' => e = .returned (.int .i64 34) ∧ w' = w := by
  obtain ⟨-, -, -, -, c⟩ := h.counts
  rw [hd] at c
  clear h hd
  go_enter Try.func35, Try.ntmps35
  go_wp2
  go_ret
  exact ⟨rfl, rfl⟩

set_option maxRecDepth 100000 in
set_option maxHeartbeats 400000 in
theorem refuse_out {w : World} {m : M} {p : Pl} (h : Dv w m p) (b n : Int) (hd : m.down = false) (hb : b < 0 ∨ n ≤ b) : Calls Try.prog 35 #[.pointer (some ⟨p.db, 0, none⟩), .int .i64 b, .int .i64 n] w fun e w' => e = .returned (.int .i64 35) ∧ w' = w := by
  obtain ⟨-, -, -, -, c⟩ := h.counts
  rw [hd] at c
  clear h hd
  have tests : decide (b < 0) = true ∨ (decide (b < 0) = false ∧ decide (n ≤ b) = true) := by simp only [decide_eq_false_iff_not, decide_eq_true_eq]; omega
  clear hb
  rcases tests with t1 | ⟨t1, t2⟩
  all_goals
    go_enter Try.func35, Try.ntmps35
    go_wp2
    go_ret
    exact ⟨rfl, rfl⟩

set_option maxRecDepth 100000 in
set_option maxHeartbeats 400000 in
theorem refuse_no {w : World} {m : M} {p : Pl} (h : Dv w m p) (b n : Int) (hd : m.down = false) (h0 : 0 ≤ b) (h1 : b < n) : Calls Try.prog 35 #[.pointer (some ⟨p.db, 0, none⟩), .int .i64 b, .int .i64 n] w fun e w' => e = .returned (.int .i64 0) ∧ w' = w := by
  obtain ⟨-, -, -, -, c⟩ := h.counts
  rw [hd] at c
  clear h hd
  have t1 : decide (b < 0) = false := by simp only [decide_eq_false_iff_not]; omega
  have t2 : decide (n ≤ b) = false := by simp only [decide_eq_false_iff_not]; omega
  clear h0 h1
  go_enter Try.func35, Try.ntmps35
  go_wp2
  go_ret
  exact ⟨rfl, rfl⟩

set_option maxRecDepth 100000 in
set_option maxHeartbeats 1600000 in
theorem blocks_any {w : World} {m : M} {p : Pl} (h : Dv w m p) : Calls Try.prog 67 #[.pointer (some ⟨p.db, 0, none⟩)] w fun e w' => e = .returned (.int .i64 ((m.inp.length + m.B - 1) / m.B : Nat)) ∧ Kept w w' := by
  obtain ⟨c0, -, c2, -, -, -⟩ := h.cells
  have b1 := h.good.b1
  have b2 := h.good.b2
  have b3 := h.good.inp
  clear h
  obtain ⟨B, eB⟩ : ∃ B, B = m.B := ⟨_, rfl⟩
  obtain ⟨n, en⟩ : ∃ n, n = m.inp.length := ⟨_, rfl⟩
  rw [← eB] at c0 b1 b2 ⊢
  rw [← en] at c2 b3 ⊢
  clear eB en
  obtain ⟨q, eq⟩ : ∃ q, q = (n + B - 1) / B := ⟨_, rfl⟩
  have hq : ((n : Int) + B - 1).tdiv (B : Int) = (q : Int) := by
    rw [eq, show ((n : Int) + B - 1) = ((n + B - 1 : Nat) : Int) by omega]; rfl
  have hq2 : q ≤ 4195328 := by rw [eq]; exact Nat.le_trans (Nat.div_le_self _ _) (by omega)
  rw [← eq]
  have hB : ((B : Int) == 0) = false := by simp; omega
  clear eq
  have c0' := c0
  have c2' := c2
  go_enter Try.func67, Try.ntmps67
  go_wp2_with fail
  go_quiet (fail)
  go_wp2_with fail
  go_ret
  exact ⟨rfl, Same.drewN (Same.refl _ w) _⟩

theorem Try.fieldsP : Try.prog.underlying 122 = some (.struct (Try.prog.fieldsOf 122)) := by kernel_rfl
theorem Try.heldP : Try.prog.stoodInHeld 122 = false := by kernel_rfl
theorem Try.guardP : Try.prog.eqGuardType Try.prog.depth 122 = false := by kernel_rfl
theorem eql_place (r b r' b' : Int) (w : World) : (binOp .eql 122 (.agg #[.int .i64 r, .int .i64 b]) (.agg #[.int .i64 r', .int .i64 b'])).run Try.prog w = .ok (.bool (r == r' && b == b')) w := by
  have hf : (Try.prog.fieldsOf 122).toList.map (fun f => (f.name, f.type, f.offset)) = [("region", 3, 0), ("block", 3, 1)] := by kernel_rfl
  rw [run_eql_struct, run_equalIn_agg w 9999 122 _ _ Try.fieldsP Try.heldP]
  have hlen : (Try.prog.fieldsOf 122).toList.length = 2 := by simpa using congrArg List.length hf
  obtain ⟨f0, f1, hl⟩ : ∃ f0 f1, (Try.prog.fieldsOf 122).toList = [f0, f1] := by
    generalize (Try.prog.fieldsOf 122).toList = l at hlen
    rcases l with _ | ⟨f0, _ | ⟨f1, _ | ⟨f2, r⟩⟩⟩ <;> simp at hlen
    exact ⟨f0, f1, rfl⟩
  rw [hl] at hf ⊢
  simp only [List.map_cons, List.map_nil, List.cons.injEq, Prod.mk.injEq, and_true] at hf
  obtain ⟨⟨n0, t0, o0⟩, n1, t1, o1⟩ := hf
  simp [Op.eqFields, n0, t0, o0, n1, t1, o1, part, run_equalIn_int, Try.underlying3]
  by_cases e1 : r = r' <;> by_cases e2 : b = b' <;> simp [e1, e2]

theorem hits_take {l : List Fl} {r b : Int} {n j : Nat} {f : Fl} (hf : l[j]? = some f) (h : Hits (l.take j) r b n = false) : Hits (l.take (j + 1)) r b n = (f.k == r && f.b == b && f.n == (n : Int)) := by
  rw [List.take_add_one, hf]
  simp only [Hits] at *
  rw [List.any_append, h]
  simp
theorem hits_here {l : List Fl} {r b : Int} {n j : Nat} {f : Fl} (hf : l[j]? = some f) (h : (f.k == r && f.b == b && f.n == (n : Int)) = true) : Hits l r b n = true := by
  simp only [Hits, List.any_eq_true]
  exact ⟨f, List.mem_of_getElem? hf, h⟩

set_option maxRecDepth 100000 in
set_option maxHeartbeats 1600000 in
theorem struck_any {w : World} {m : M} {p : Pl} (h : Dv w m p) (r b : Int) (hr : I64 r) (hb : I64 b) :
    Calls Try.prog 74 #[.pointer (some ⟨p.db, 0, none⟩), .agg #[.int .i64 r, .int .i64 b]] w fun e w' => e = .returned (.bool (Hits m.F r b (m.R r b))) ∧ Kept w w' := by
  obtain ⟨-, -, -, -, c4, c5⟩ := h.cells
  have hF := h.good.F
  have hl : p.db < w.heap.size := lt_of_heap h.dev
  have HH : Hid _ := h
  obtain ⟨n, en⟩ : ∃ n, n = m.F.length := ⟨_, rfl⟩
  rw [← en] at c4 hF
  have EN : Hid _ := en
  obtain ⟨R, eR⟩ : ∃ R, R = m.R r b := ⟨_, rfl⟩
  rw [← eR]
  have ER : Hid _ := eR
  have b0 : (w.alloc (.cells #[.int .i64 r, .int .i64 b] 122)).heap[w.heap.size]? = some (.cells #[.int .i64 r, .int .i64 b] 122 (0, 0)) := heap_new w _
  have B0 : Hid _ := b0
  clear h en eR b0
  go_enter Try.func74, Try.ntmps74
  go_wp2_with fail
  go_loopw [12] (fun i wr => ∃ j : Nat, j ≤ n ∧ i = .int .i64 j ∧ Hits (m.F.take j) r b R = false ∧ Kept (w.alloc (.cells #[.int .i64 r, .int .i64 b] 122)) wr) (fun i _ => n - (intOf i).toNat)
  case atStart => exact ⟨0, Nat.zero_le _, rfl, rfl, Same.refl _ _⟩
  case round =>
    obtain ⟨j, hj, rfl, hh, kk⟩ := hrel
    have KK : Hid _ := kk
    have HT : Hid _ := hh
    clear hh
    have kk0 : Kept w wr := ((Same.refl _ w).alloc _).trans' kk
    have hd := HH.out.kept0 kk0
    by_cases hlt : j < n
    · have c1 : decide ((j : Int) < (n : Int)) = true := by simp only [decide_eq_true_eq]; omega
      have hlt2 : (j : Int) < (n : Int) := by omega
      obtain ⟨f, hf⟩ : ∃ f, m.F[j]? = some f := ⟨_, List.getElem?_eq_getElem (by rw [← EN.out]; exact hlt)⟩
      obtain ⟨fb, off, hfa, hfb, q0, q1, q2, q3⟩ := hd.flt j f hf
      rw [hfa] at c4 ⊢
      have hlr := lt_of_heap hd.dev
      obtain ⟨-, -, -, -, -, k5⟩ := hd.cells
      have r0 : wr.heap[w.heap.size]? = some (.cells #[.int .i64 r, .int .i64 b] 122 (0, 0)) := (kk.block _ (by simp) (fun h => h)).trans B0.out
      have hlb := lt_of_heap r0
      have r1 : wr.cell? ⟨w.heap.size, 0, none⟩ = some (.int .i64 r) := (cell_of r0 0).trans rfl
      have r2 : wr.cell? ⟨w.heap.size, 1, none⟩ = some (.int .i64 b) := (cell_of r0 1).trans rfl
      have lk : ∀ o k, (Instr.lookup 56 (.map (some p.mb)) (.agg #[.int .i64 r, .int .i64 b]) false).run Try.prog ((wr.alloc o).drewN k) = .ok (.int .i64 R) ((wr.alloc o).drewN k) := fun o k => by
        rw [ER.out]
        exact (hd.map.kept (Same.drewN ((Same.refl (fun _ => False) wr).alloc o) k) (fun h => h)).look hr hb
      have he := eql_place r b f.k f.b
      have hg := Try.guardP
      have HS : Hid (Hits (m.F.take (j + 1)) r b R = (f.k == r && f.b == b && f.n == (R : Int))) := hits_take hf HT.out
      have HF : Hid (m.F[j]? = some f) := hf
      clear r0 hd kk0 kk hf
      rcases Bool.eq_false_or_eq_true (r == f.k && b == f.b) with ht | ht
      · have HE : Hid (f.k = r ∧ f.b = b) := by
          simp only [Bool.and_eq_true, beq_iff_eq] at ht
          exact ⟨ht.1.symm, ht.2.symm⟩
        rw [ht] at he
        rcases Bool.eq_false_or_eq_true (f.n == (R : Int)) with hn | hn
        · have HY : Hid (Hits m.F r b R = true) := hits_here HF.out (by rw [HE.out.1, HE.out.2, hn]; simp)
          have hn' : f.n = (R : Int) := by simpa using hn
          clear ht
          go_wp2_with fail
          go_quiet (fail)
          go_wp2_with fail
          go_ret
          rw [HY.out]
          exact ⟨rfl, Same.drewN ((((Same.refl _ w).alloc _).trans' KK.out).alloc _) _⟩
        · have HY : Hid (Hits (m.F.take (j + 1)) r b R = false) := HS.out.trans (by rw [hn]; simp)
          have hn' : ¬ f.n = (R : Int) := by simpa using hn
          clear ht
          go_wp2_with fail
          go_quiet (fail)
          go_wp2_with fail
          go_roundw
          case rel => exact ⟨j + 1, hlt, by rw [Int.natCast_add]; rfl, HY.out, Same.drewN (KK.out.alloc _) _⟩
          case measure => simp only [intOf]; omega
      · have HY : Hid (Hits (m.F.take (j + 1)) r b R = false) := HS.out.trans (by
          have : (f.k == r && f.b == b) = false := by rw [← ht, Bool.beq_comm, Bool.beq_comm (a := f.b)]
          rw [this]; rfl)
        rw [ht] at he
        clear ht
        go_wp2_with fail
        go_quiet (fail)
        go_wp2_with fail
        go_roundw
        case rel => exact ⟨j + 1, hlt, by rw [Int.natCast_add]; rfl, HY.out, Same.drewN (KK.out.alloc _) _⟩
        case measure => simp only [intOf]; omega
    · have ej : j = n := by omega
      subst ej
      have c1 : decide ((j : Int) < (j : Int)) = false := by simp
      go_wp2_with fail
      go_ret
      refine ⟨?_, ((Same.refl _ w).alloc _).trans' KK.out⟩
      have := HT.out
      rw [EN.out, List.take_length] at this
      rw [this]
      rfl
end Go.Proofs.Ytpjkmficpedmcaa
