/- What is proved: Decode answers what the document's items say, of every list of bytes that lies in memory; the bounds that a machine's memory sets. -/
import Derived.Test.YtflemfohnpjeaaaRTxn
import Derived.Recover
namespace Go.Proofs.Ytflemfohnpjeaaa
open Go.RowKit

theorem one_obj {w : World} {b : Nat} {v : Value} {ty : TypeId} (h : w.heap[b]? = some (.cells #[v] ty (0, 0))) : w.cell? ⟨b, 0, none⟩ = some v ∧ w.frozen? ⟨b, 0, none⟩ = false := ⟨(cell_of h 0).trans rfl, frozen_of h 0⟩

theorem set_world {b0 b1 b2 : Nat} {x1 x2 : Value} {w wp : World} {v1 v2 : Value} {ar : Array Value} (s0 : Same (fun k => k = b0) w wp) (a0 : wp.heap[b0]? = some (.cells ar 40 (0, 0))) (h1 : w.heap[b1]? = some (.cells #[v1] 3 (0, 0))) (h2 : w.heap[b2]? = some (.cells #[v2] 28 (0, 0))) (n1 : b0 ≠ b1) (n2 : b0 ≠ b2) (n3 : b1 ≠ b2) :
    Same (fun k => k = b0 ∨ k = b1 ∨ k = b2) w ((wp.setCell ⟨b1, 0, none⟩ x1).setCell ⟨b2, 0, none⟩ x2) ∧ ((wp.setCell ⟨b1, 0, none⟩ x1).setCell ⟨b2, 0, none⟩ x2).heap[b0]? = some (.cells ar 40 (0, 0)) ∧
      ((wp.setCell ⟨b1, 0, none⟩ x1).setCell ⟨b2, 0, none⟩ x2).heap[b1]? = some (.cells #[x1] 3 (0, 0)) ∧ ((wp.setCell ⟨b1, 0, none⟩ x1).setCell ⟨b2, 0, none⟩ x2).heap[b2]? = some (.cells #[x2] 28 (0, 0)) := by
  have a1 := (s0.block b1 (lt_of_heap h1) (fun e => n1 e.symm)).trans h1
  have a2 := (s0.block b2 (lt_of_heap h2) (fun e => n2 e.symm)).trans h2
  have s1 : Same (fun k => k = b0 ∨ k = b1 ∨ k = b2) w wp := s0.mono (fun _ _ e => .inl e)
  exact ⟨(s1.setCell ⟨b1, 0, none⟩ (.inr (.inr (.inl rfl))) _).setCell ⟨b2, 0, none⟩ (.inr (.inr (.inr rfl))) _, (Same.block_set n2).symm.trans ((Same.block_set n1).symm.trans a0), (Same.block_set n3).symm.trans ((setCell_at a1 0 _).trans (by simp)),
    (setCell_at ((Same.block_set (fun e => n3 e.symm)).symm.trans a2) 0 _).trans (by simp)⟩
theorem caught_world {b0 b1 b2 : Nat} {x1 x2 : Value} {w wp : World} {v1 v2 : Value} {o : Obj} (s0 : Same (fun k => k = b0) w wp) (a0 : wp.heap[b0]? = some (.cells txz 40 (0, 0))) (h1 : w.heap[b1]? = some (.cells #[v1] 3 (0, 0))) (h2 : w.heap[b2]? = some (.cells #[v2] 28 (0, 0))) (n1 : b0 ≠ b1) (n2 : b0 ≠ b2) (n3 : b1 ≠ b2) :
    Same (fun k => k = b0 ∨ k = b1 ∨ k = b2) w (((wp.setCell ⟨b1, 0, none⟩ x1).setCell ⟨b2, 0, none⟩ x2).alloc o).drew ∧ (((wp.setCell ⟨b1, 0, none⟩ x1).setCell ⟨b2, 0, none⟩ x2).alloc o).drew.heap[b0]? = some (.cells txz 40 (0, 0)) ∧
      (((wp.setCell ⟨b1, 0, none⟩ x1).setCell ⟨b2, 0, none⟩ x2).alloc o).drew.heap[b1]? = some (.cells #[x1] 3 (0, 0)) ∧ (((wp.setCell ⟨b1, 0, none⟩ x1).setCell ⟨b2, 0, none⟩ x2).alloc o).drew.heap[b2]? = some (.cells #[x2] 28 (0, 0)) := by
  obtain ⟨s, e0, e1, e2⟩ := set_world (x1 := x1) (x2 := x2) s0 a0 h1 h2 n1 n2 n3
  exact ⟨Same.drew (Same.alloc s o), (heap_old _ o (lt_of_heap e0)).trans e0, (heap_old _ o (lt_of_heap e1)).trans e1, (heap_old _ o (lt_of_heap e2)).trans e2⟩

set_option maxRecDepth 100000 in
set_option maxHeartbeats 1600000 in
theorem catch_fault (b0 b1 b2 p : Nat) (z : Int) (older : List PanicEntry) (w : World) {u0 u1 u2 u3 u4 u5 u6 u7 v1 v2 : Value} (h0 : w.heap[b0]? = some (.cells #[u0, u1, u2, u3, u4, u5, u6, u7] 40 (0, 0))) (h1 : w.heap[b1]? = some (.cells #[v1] 3 (0, 0))) (h2 : w.heap[b2]? = some (.cells #[v2] 28 (0, 0))) (n1 : b0 ≠ b1) (n2 : b0 ≠ b2) (n3 : b1 ≠ b2) :
    CallsD Try.prog 57 #[.pointer (some ⟨b0, 0, none⟩), .pointer (some ⟨b1, 0, none⟩), .pointer (some ⟨b2, 0, none⟩)] (.panicking ({ v := thrV p z, recovered := false } :: older)) w fun e u' w' =>
      e = .returned (.tuple #[]) ∧ u' = .panicking ({ v := thrV p z, recovered := true } :: older) ∧ Same (fun k => k = b0 ∨ k = b1 ∨ k = b2) w w' ∧ w'.heap[b0]? = some (.cells txz 40 (0, 0)) ∧ w'.heap[b1]? = some (.cells #[.int .i64 (p : Int)] 3 (0, 0)) ∧ w'.heap[b2]? = some (.cells #[.int .i64 z] 28 (0, 0)) := by
  obtain ⟨⟨c0, c1, c2, c3, c4, c5, c6, c7⟩, f0, f1, f2, f3, f4, f5, f6, f7⟩ := tx_obj h0
  obtain ⟨d1, g1⟩ := one_obj h1
  obtain ⟨d2, g2⟩ := one_obj h2
  have l0 := lt_of_heap h0
  have l1 := lt_of_heap h1
  have l2 := lt_of_heap h2
  unfold thrV
  have hta : ∀ W : World, (Instr.typeAssert (.iface 94 (.agg #[.int .i64 (p : Int), .int .i64 z])) 20 94 false).run Try.prog W = .ok (.agg #[.int .i64 (p : Int), .int .i64 z]) W := fun W => by kernel_rfl
  refine callsD_of_wpS Try.func57 rfl fun c₀ cs hu => ?_
  rw [show (#[.pointer (some ⟨b0, 0, none⟩), .pointer (some ⟨b1, 0, none⟩), .pointer (some ⟨b2, 0, none⟩)] ++ Array.replicate (Try.f57.ntmps - (#[.pointer (some ⟨b0, 0, none⟩), .pointer (some ⟨b1, 0, none⟩), .pointer (some ⟨b2, 0, none⟩)] : Array Value).size) undef : Array Value) = #[.pointer (some ⟨b0, 0, none⟩), .pointer (some ⟨b1, 0, none⟩), .pointer (some ⟨b2, 0, none⟩), undef, undef, undef, undef, undef, undef, undef, undef, undef, undef, undef, undef] from rfl]
  apply wpS_seq
  apply wpS_region
  simp [wpOpsS, go_sem, recoverD, hu, Exit.thenS]
  apply wpS_seq
  apply wpS_region
  simp [wpOpsS, go_sem, Exit.thenS]
  refine wpS_cond (t := true) (by simp [Act.eval]) ?_
  simp only [if_true]
  refine wpS_of_wp ?_
  go_wp2_with fail
  go_region_held3 (fun w' => w'.cell? ⟨w.heap.size, 0, none⟩ = some (.int .i64 (p : Int)) ∧ w'.cell? ⟨w.heap.size, 1, none⟩ = some (.int .i64 z)) (constructor <;> go_simp) (fail)
  exact ⟨rfl, _, rfl, _, results_none rfl _ _ _, rfl, rfl, caught_world (put8_same _ _ _ _ _ _ _ _ _ _) (put8_at h0 _ _ _ _ _ _ _ _) h1 h2 n1 n2 n3⟩

set_option maxRecDepth 100000 in
theorem catch_idle (b0 b1 b2 : Nat) (w : World) :
    CallsD Try.prog 57 #[.pointer (some ⟨b0, 0, none⟩), .pointer (some ⟨b1, 0, none⟩), .pointer (some ⟨b2, 0, none⟩)] .returning w fun e u' w' => e = .returned (.tuple #[]) ∧ u' = .returning ∧ w' = w := by
  refine callsD_of_wpS Try.func57 rfl fun c₀ cs hu => ?_
  rw [show (#[.pointer (some ⟨b0, 0, none⟩), .pointer (some ⟨b1, 0, none⟩), .pointer (some ⟨b2, 0, none⟩)] ++ Array.replicate (Try.f57.ntmps - (#[.pointer (some ⟨b0, 0, none⟩), .pointer (some ⟨b1, 0, none⟩), .pointer (some ⟨b2, 0, none⟩)] : Array Value).size) undef : Array Value) = #[.pointer (some ⟨b0, 0, none⟩), .pointer (some ⟨b1, 0, none⟩), .pointer (some ⟨b2, 0, none⟩), undef, undef, undef, undef, undef, undef, undef, undef, undef, undef, undef, undef] from rfl]
  apply wpS_seq
  apply wpS_region
  simp [wpOpsS, go_sem, recoverD, hu, Exit.thenS]
  apply wpS_seq
  apply wpS_region
  simp [wpOpsS, go_sem, Exit.thenS]
  refine wpS_cond (t := false) (by simp [Act.eval]) ?_
  simp only [Bool.false_eq_true, if_false]
  refine wpS_of_wp (wp_skip ?_)
  cases c₀
  simp_all [bodyPostS, results, Try.results57]
theorem three_new (w : World) (o1 o2 o3 : Obj) : (((w.alloc o1).alloc o2).alloc o3).heap[w.heap.size]? = some o1 ∧ (((w.alloc o1).alloc o2).alloc o3).heap[w.heap.size + 1]? = some o2 ∧ (((w.alloc o1).alloc o2).alloc o3).heap[w.heap.size + 1 + 1]? = some o3 := by
  obtain ⟨t1, t2⟩ := two_new w o1 o2
  refine ⟨(heap_old _ _ (by simp [World.size_alloc]; omega)).trans t1, (heap_old _ _ (by simp [World.size_alloc])).trans t2, ?_⟩
  have := heap_new ((w.alloc o1).alloc o2) o3
  simpa only [World.size_alloc] using this
theorem results_ccc {fn : Func} {a b c t u s : Nat} {P : Program} {w : World} {tmps : Array Value} {ad bd cd : Addr} {x y z : Value} (h : fn.results = #[.cell a t, .cell b u, .cell c s]) (ha : tmps.getD a undef = .pointer (some ad)) (hb : tmps.getD b undef = .pointer (some bd)) (hc : tmps.getD c undef = .pointer (some cd)) (hx : (loadVar t ad).run P w = .ok x w) (hy : (loadVar u bd).run P w = .ok y w) (hz : (loadVar s cd).run P w = .ok z w) : (results fn tmps).run P w = .ok (.tuple #[x, y, z]) w := by
  have ha' : tmps[a]?.getD undef = .pointer (some ad) := by simpa using ha
  have hb' : tmps[b]?.getD undef = .pointer (some bd) := by simpa using hb
  have hc' : tmps[c]?.getD undef = .pointer (some cd) := by simpa using hc
  simp [results, h, ha', hb', hc', asAddr, hx, hy, hz]
theorem loadVar_int {w : World} {b : Nat} {x : Int} (h : w.heap[b]? = some (.cells #[.int .i64 x] 3 (0, 0))) : (loadVar 3 ⟨b, 0, none⟩).run Try.prog w = .ok (.int .i64 x) w := by
  have c0 := (one_obj h).1
  clear h
  go_simp
theorem loadVar_errno {w : World} {b : Nat} {x : Int} (h : w.heap[b]? = some (.cells #[.int .i64 x] 28 (0, 0))) : (loadVar 28 ⟨b, 0, none⟩).run Try.prog w = .ok (.int .i64 x) w := by
  have c0 := (one_obj h).1
  clear h
  go_simp
def t0 : TxM := ⟨0, 0, 0, 0, 0, 0, 0, []⟩
/-- What Decode answers and leaves. -/
def DcP (w : World) (l : List Int) (e : Ending) (w' : World) : Prop :=
  Kept w w' ∧ match decode l with
    | .error (p, z) => e = .returned (.tuple #[txV t0 (.slice none 0 0), .int .i64 (p : Int), .int .i64 z])
    | .ok t => ∃ v, e = .returned (.tuple #[txV t v, .int .i64 0, .int .i64 0]) ∧ OwnO w.heap.size w' v t.ops
set_option maxRecDepth 100000 in
set_option maxHeartbeats 1600000 in
theorem decode_any (w : World) (oa : Option Addr) (c : Nat) (l : List Int) (hl : BytesAt w oa l) (hnil : oa = none → l.length = 0 ∧ c = 0) (hb : l.length ≤ 140737488355328) (hby : Byts l) :
    Calls Try.prog 49 #[.slice oa l.length c] w (DcP w l) := by
  have hmf : ∀ (fn : Fn) (first cap : Array Value) (w : World), (Instr.makeFunc fn first cap).run Try.prog w = .ok (.func fn first cap) w := fun _ _ _ _ => rfl
  have H1 : Hid (∀ W, Kept w W → _) := fun W (k : Kept w W) => open_any W oa c l (hl.kept k (fun _ _ h => h)) hnil hb hby
  have H2 : Hid (∀ W cb a cap, Cu W cb a cap l 0 0 → _) := fun W cb a cap (u : Cu W cb a cap l 0 0) => txn_any u
  unfold rdV TxP at H2
  obtain ⟨n, en⟩ : ∃ n, n = l.length := ⟨_, rfl⟩
  rw [← en] at H1 ⊢
  clear hl hnil hb hby en
  go_enter_defers Try.func49, Try.ntmps49
  go_wp2_with fail
  refine Calls.mono (H1.out _ ((((Same.refl _ w).alloc _).alloc _).alloc _)) ?_
  rintro e w1 ⟨v, rfl, ⟨cb, a, cap, rfl, u1, hcb, -⟩, k1⟩
  have K1 : Hid (Kept w w1) := ((((Same.refl _ w).alloc _).alloc _).alloc _).trans' k1
  obtain ⟨t1, t2, t3⟩ := three_new w (.cells txz 40 (0, 0)) (.cells #[.int .i64 0] 3 (0, 0)) (.cells #[.int .i64 0] 28 (0, 0))
  have b1 := (k1.block _ (lt_of_heap t1) (fun h => h)).trans t1
  have b2 := (k1.block _ (lt_of_heap t2) (fun h => h)).trans t2
  have b3 := (k1.block _ (lt_of_heap t3) (fun h => h)).trans t3
  simp only [World.size_alloc] at hcb
  have HT : Hid _ := H2.out _ _ _ _ u1
  clear u1 k1 t1 t2 t3
  go_wp2_with fail
  refine Calls.mono HT.out ?_
  rintro e w2 ⟨s2, q2⟩
  have d1 := (s2.block _ (lt_of_heap b1) (by omega)).trans b1
  have d2 := (s2.block _ (lt_of_heap b2) (by omega)).trans b2
  have d3 := (s2.block _ (lt_of_heap b3) (by omega)).trans b3
  have K2 : Hid (Kept w w2) := Same.trans K1.out s2 (fun i hi e => by omega)
  rcases hd : decode l with ⟨p, z⟩ | t
  · rw [hd] at q2
    simp only at q2
    subst q2
    unfold thr
    go_wp2_with fail
    refine leaves_cons (f := 57) (args := #[.pointer (some ⟨w.heap.size, 0, none⟩), .pointer (some ⟨w.heap.size + 1, 0, none⟩), .pointer (some ⟨w.heap.size + 1 + 1, 0, none⟩)]) (by simp) (by simp [go_sem]) ?_
    refine (catch_fault _ _ _ p z [] _ d1 d2 d3 (by omega) (by omega) (by omega)).mono ?_
    rintro e u' w3 ⟨rfl, rfl, s3, g1, g2, g3⟩
    refine ⟨_, results_ccc rfl rfl rfl rfl (loadVar_tx g1) (loadVar_int g2) (loadVar_errno g3), ?_⟩
    unfold DcP
    rw [hd]
    exact ⟨K2.out.trans s3 (fun i hi e => by omega), rfl⟩
  · rw [hd] at q2
    simp only at q2
    obtain ⟨v, rfl, ho⟩ := q2
    obtain ⟨sa, sc, rfl, -, -, -, -, -⟩ := OwnO.ops ho
    obtain ⟨⟨c0, c1, c2, c3, c4, c5, c6, c7⟩, f0, f1, f2, f3, f4, f5, f6, f7⟩ := tx_obj d1
    obtain ⟨m1, y1⟩ := one_obj d2
    obtain ⟨m2, y2⟩ := one_obj d3
    have D1 : Hid _ := d1
    have D2 : Hid _ := d2
    have D3 : Hid _ := d3
    have HD : Hid _ := hd
    have HOW : Hid _ := ho
    have HB : Hid (w.heap.size + 1 + 1 < w1.heap.size) := lt_of_heap b3
    clear d1 d2 d3 hd ho s2 b1 b2 b3
    unfold txV
    go_wp2_with fail
    refine leaves_cons (f := 57) (args := #[.pointer (some ⟨w.heap.size, 0, none⟩), .pointer (some ⟨w.heap.size + 1, 0, none⟩), .pointer (some ⟨w.heap.size + 1 + 1, 0, none⟩)]) (by simp) (by simp [go_sem]) ?_
    refine (catch_idle _ _ _ _).mono ?_
    rintro e u' w3 ⟨rfl, rfl, rfl⟩
    obtain ⟨s3, g1, g2, g3⟩ := set_world (x1 := .int .i64 0) (x2 := .int .i64 0) (put8_same w2 w.heap.size (.int .i64 t.f0) (.int .i64 t.f1) (.int .i64 t.f2) (.int .i64 t.f3) (.int .i64 t.f4) (.int .i64 t.f5) (.int .i64 t.f6) (.slice sa t.ops.length sc)) (put8_at D1.out _ _ _ _ _ _ _ _) D2.out D3.out (by omega) (by omega) (by omega)
    refine ⟨_, results_ccc rfl rfl rfl rfl (loadVar_tx g1) (loadVar_int g2) (loadVar_errno g3), ?_⟩
    unfold DcP
    rw [HD.out]
    have hb := HB.out
    refine ⟨K2.out.trans s3 (fun i hi e => by omega), _, rfl, ?_⟩
    exact OwnO.lower (OwnO.kept HOW.out s3 (fun k hk e => by have := (OwnO.block HOW.out hk).1; omega)) (by omega)
end Go.Proofs.Ytflemfohnpjeaaa
