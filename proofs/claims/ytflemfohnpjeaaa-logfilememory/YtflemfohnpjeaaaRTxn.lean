/- What is proved: what a reader's txn answers, or the panic that it throws; no condition. -/
import Derived.Test.YtflemfohnpjeaaaROps
import Derived.Deep.RegionHeld3
namespace Go.Proofs.Ytflemfohnpjeaaa
open Go.RowKit

def txz : Array Value := #[.int .i64 0, .int .i64 0, .int .i64 0, .int .i64 0, .int .i64 0, .int .i64 0, .int .i64 0, .slice none 0 0]
/-- What stands between two calls of txn: the reader's box, the result's block, the transaction's block, the cursor. -/
structure Fr (w W : World) (cb : Nat) (a : Option Addr) (cap : Nat) (l : List Int) (q : Nat) (f : Array Value) : Prop where
  same : Same (fun k => k = cb) w W
  b0 : W.heap[w.heap.size]? = some (.cells #[.pointer (some ⟨cb, 0, none⟩)] 96 (0, 0))
  b1 : W.heap[w.heap.size + 1]? = some (.cells txz 40 (0, 0))
  b2 : W.heap[w.heap.size + 1 + 1]? = some (.cells f 40 (0, 0))
  cu : Cu W cb a cap l q 0
  lt : cb < w.heap.size
  inb : ∀ k, InB a l.length k → k < w.heap.size
section
variable {w W : World} {cb : Nat} {a : Option Addr} {cap : Nat} {l : List Int} {q : Nat} {f : Array Value}
theorem Fr.call (F : Fr w W cb a cap l q f) {W1 : World} {q' : Nat} (s : Same (fun k => k = cb) W W1) (u : Cu W1 cb a cap l q' 0) : Fr w W1 cb a cap l q' f :=
  have h := F.lt
  ⟨F.same.trans' s, (s.block _ (lt_of_heap F.b0) (by omega)).trans F.b0, (s.block _ (lt_of_heap F.b1) (by omega)).trans F.b1, (s.block _ (lt_of_heap F.b2) (by omega)).trans F.b2, u, F.lt, F.inb⟩
theorem Fr.on (F : Fr w W cb a cap l q f) {W1 : World} (s : Kept W W1) : Fr w W1 cb a cap l q f := F.call (Kept.to s _) (F.cu.on s)
theorem Fr.put (F : Fr w W cb a cap l q f) (j : Nat) (v : Value) : Fr w (W.setCell ⟨w.heap.size + 1 + 1, j, none⟩ v) cb a cap l q (f.setIfInBounds j v) := by
  have h := F.lt
  have s : Same (fun k => k = w.heap.size + 1 + 1) W (W.setCell ⟨w.heap.size + 1 + 1, j, none⟩ v) := Same.setCell (S := fun k => k = w.heap.size + 1 + 1) (Same.refl _ W) _ (.inr rfl) _
  exact ⟨F.same.setCell _ (.inl (by show w.heap.size ≤ w.heap.size + 1 + 1; omega)) _, (s.block _ (lt_of_heap F.b0) (by omega)).trans F.b0, (s.block _ (lt_of_heap F.b1) (by omega)).trans F.b1, setCell_at F.b2 j v,
    F.cu.keptN s (by omega) (fun k hk => by have := F.inb k hk; omega), F.lt, F.inb⟩
theorem Fr.start (h : Cu w cb a cap l q 0) : Fr w (((w.alloc (.cells #[.pointer (some ⟨cb, 0, none⟩)] 96 (0, 0))).alloc (.cells txz 40 (0, 0))).alloc (.cells txz 40 (0, 0))) cb a cap l q txz := by
  have k : Kept w (((w.alloc (.cells #[.pointer (some ⟨cb, 0, none⟩)] 96 (0, 0))).alloc (.cells txz 40 (0, 0))).alloc (.cells txz 40 (0, 0))) := (((Same.refl _ w).alloc _).alloc _).alloc _
  obtain ⟨t1, t2⟩ := two_new w (.cells #[.pointer (some ⟨cb, 0, none⟩)] 96 (0, 0)) (.cells txz 40 (0, 0))
  refine ⟨Kept.to k _, (heap_old _ _ (by simp [World.size_alloc]; omega)).trans t1, (heap_old _ _ (by simp [World.size_alloc])).trans t2, ?_, h.on k, h.lt, fun k => h.data.lt⟩
  have := heap_new ((w.alloc (.cells #[.pointer (some ⟨cb, 0, none⟩)] 96 (0, 0))).alloc (.cells txz 40 (0, 0))) (.cells txz 40 (0, 0))
  simpa only [World.size_alloc] using this
/-- What txn answers and leaves. -/
def TxP (w : World) (cb : Nat) (l : List Int) (e : Ending) (w' : World) : Prop :=
  Same (fun k => k = cb) w w' ∧ match decode l with
    | .error (p, z) => e = thr p z
    | .ok t => ∃ v, e = .returned (txV t v) ∧ OwnO w.heap.size w' v t.ops
theorem decode_err {l : List Int} {pz : Nat × Int} (h : run pgT l 0 = .error pz) : decode l = .error pz := by unfold decode; rw [h]
theorem decode_more {l : List Int} {t : TxM} {q : Nat} (h : run pgT l 0 = .ok (t, q)) (hq : q < l.length) : decode l = .error (q, 61) := by unfold decode; rw [h]; simp only; rw [if_pos hq]
theorem decode_all {l : List Int} {t : TxM} {q : Nat} (h : run pgT l 0 = .ok (t, q)) (hq : ¬ q < l.length) : decode l = .ok t := by unfold decode; rw [h]; simp only; rw [if_neg hq]
theorem tx_obj {w : World} {b : Nat} {v0 v1 v2 v3 v4 v5 v6 v7 : Value} (h : w.heap[b]? = some (.cells #[v0, v1, v2, v3, v4, v5, v6, v7] 40 (0, 0))) :
    (w.cell? ⟨b, 0, none⟩ = some v0 ∧ w.cell? ⟨b, 1, none⟩ = some v1 ∧ w.cell? ⟨b, 2, none⟩ = some v2 ∧ w.cell? ⟨b, 3, none⟩ = some v3 ∧ w.cell? ⟨b, 4, none⟩ = some v4 ∧ w.cell? ⟨b, 5, none⟩ = some v5 ∧ w.cell? ⟨b, 6, none⟩ = some v6 ∧ w.cell? ⟨b, 7, none⟩ = some v7) ∧
    (w.frozen? ⟨b, 0, none⟩ = false ∧ w.frozen? ⟨b, 1, none⟩ = false ∧ w.frozen? ⟨b, 2, none⟩ = false ∧ w.frozen? ⟨b, 3, none⟩ = false ∧ w.frozen? ⟨b, 4, none⟩ = false ∧ w.frozen? ⟨b, 5, none⟩ = false ∧ w.frozen? ⟨b, 6, none⟩ = false ∧ w.frozen? ⟨b, 7, none⟩ = false) :=
  ⟨⟨(cell_of h 0).trans rfl, (cell_of h 1).trans rfl, (cell_of h 2).trans rfl, (cell_of h 3).trans rfl, (cell_of h 4).trans rfl, (cell_of h 5).trans rfl, (cell_of h 6).trans rfl, (cell_of h 7).trans rfl⟩,
    frozen_of h 0, frozen_of h 1, frozen_of h 2, frozen_of h 3, frozen_of h 4, frozen_of h 5, frozen_of h 6, frozen_of h 7⟩
theorem loadVar_tx {w : World} {b : Nat} {a0 a1 a2 a3 a4 a5 a6 : Int} {s : Option Addr} {n c : Nat} (h : w.heap[b]? = some (.cells #[.int .i64 a0, .int .i64 a1, .int .i64 a2, .int .i64 a3, .int .i64 a4, .int .i64 a5, .int .i64 a6, .slice s n c] 40 (0, 0))) :
    (loadVar 40 ⟨b, 0, none⟩).run Try.prog w = .ok (.agg #[.int .i64 a0, .int .i64 a1, .int .i64 a2, .int .i64 a3, .int .i64 a4, .int .i64 a5, .int .i64 a6, .slice s n c]) w := by
  obtain ⟨⟨c0, c1, c2, c3, c4, c5, c6, c7⟩, -⟩ := tx_obj h
  clear h
  go_simp
/-- A transaction is stored. -/
def put8 (w : World) (b : Nat) (v0 v1 v2 v3 v4 v5 v6 v7 : Value) : World := (((((((w.setCell ⟨b, 0, none⟩ v0).setCell ⟨b, 1, none⟩ v1).setCell ⟨b, 2, none⟩ v2).setCell ⟨b, 3, none⟩ v3).setCell ⟨b, 4, none⟩ v4).setCell ⟨b, 5, none⟩ v5).setCell ⟨b, 6, none⟩ v6).setCell ⟨b, 7, none⟩ v7
theorem put8_at {w : World} {b : Nat} {u0 u1 u2 u3 u4 u5 u6 u7 : Value} (h : w.heap[b]? = some (.cells #[u0, u1, u2, u3, u4, u5, u6, u7] 40 (0, 0))) (v0 v1 v2 v3 v4 v5 v6 v7 : Value) : (put8 w b v0 v1 v2 v3 v4 v5 v6 v7).heap[b]? = some (.cells #[v0, v1, v2, v3, v4, v5, v6, v7] 40 (0, 0)) :=
  (setCell_at (setCell_at (setCell_at (setCell_at (setCell_at (setCell_at (setCell_at (setCell_at h 0 _) 1 _) 2 _) 3 _) 4 _) 5 _) 6 _) 7 _).trans (by simp)
theorem put8_same (w : World) (b : Nat) (v0 v1 v2 v3 v4 v5 v6 v7 : Value) : Same (fun k => k = b) w (put8 w b v0 v1 v2 v3 v4 v5 v6 v7) :=
  ((((((((Same.refl (fun k => k = b) w).setCell _ (.inr rfl) _).setCell _ (.inr rfl) _).setCell _ (.inr rfl) _).setCell _ (.inr rfl) _).setCell _ (.inr rfl) _).setCell _ (.inr rfl) _).setCell _ (.inr rfl) _).setCell _ (.inr rfl) _
/-- What stands at the head of the loop over the operations: j of them are read. -/
structure Lp (w wr : World) (cb : Nat) (a : Option Addr) (cap : Nat) (l : List Int) (x0 x1 x2 x3 x4 x5 x6 n g j : Nat) (ds : List OpM) (q : Nat) : Prop where
  fr : Fr w wr cb a cap l q #[.int .i64 (x0 : Int), .int .i64 (x1 : Int), .int .i64 (x2 : Int), .int .i64 (x3 : Int), .int .i64 (x4 : Int), .int .i64 (x5 : Int), .int .i64 (x6 : Int), .slice (some ⟨g, 0, none⟩) n n]
  len : ds.length = j
  blk : wr.heap[g]? = some (.cells (opc (ds ++ List.replicate (n - j) z0)).toArray 42 (0, 0))
  eqn : run pgT l 0 = (match run (pgOs (n - j)) (l.drop q) q with | .error e => .error e | .ok (os, q') => .ok (⟨x0, x1, x2, x3, x4, x5, x6, ds ++ os⟩, q'))
theorem Lp.cells {w wr : World} {cb : Nat} {a : Option Addr} {cap : Nat} {l : List Int} {x0 x1 x2 x3 x4 x5 x6 n g j : Nat} {ds : List OpM} {q : Nat} (h : Lp w wr cb a cap l x0 x1 x2 x3 x4 x5 x6 n g j ds q) (hj : j < n) (hg : w.heap.size + 1 + 1 < g) (W : World) (s : Same (fun k => k = cb) wr W) :
    Same (fun k => k = cb) wr W ∧ W.cell? ⟨w.heap.size, 0, none⟩ = some (.pointer (some ⟨cb, 0, none⟩)) ∧ W.cell? ⟨w.heap.size + 1 + 1, 7, none⟩ = some (.slice (some ⟨g, 0, none⟩) n n) ∧
    W.cell? ⟨g, j * 4, none⟩ = some (.int .i64 0) ∧ W.cell? ⟨g, j * 4 + 1, none⟩ = some (.string ⟨#[]⟩) ∧ W.cell? ⟨g, j * 4 + 2, none⟩ = some (.bool false) ∧ W.cell? ⟨g, j * 4 + 3, none⟩ = some (.string ⟨#[]⟩) ∧
    W.frozen? ⟨g, j * 4, none⟩ = false ∧ W.frozen? ⟨g, j * 4 + 1, none⟩ = false ∧ W.frozen? ⟨g, j * 4 + 2, none⟩ = false ∧ W.frozen? ⟨g, j * 4 + 3, none⟩ = false := by
  have hlt := h.fr.lt
  have b0 := (s.block _ (lt_of_heap h.fr.b0) (by omega)).trans h.fr.b0
  have b2 := (s.block _ (lt_of_heap h.fr.b2) (by omega)).trans h.fr.b2
  have bg := (s.block _ (lt_of_heap h.blk) (by omega)).trans h.blk
  have hz : (ds ++ List.replicate (n - j) z0)[j]? = some z0 := by
    rw [List.getElem?_append_right (by rw [h.len]; exact Nat.le_refl _), h.len, Nat.sub_self, List.getElem?_replicate]
    rw [if_pos (by omega)]
  obtain ⟨g0, g1, g2, g3⟩ := opc_get hz
  refine ⟨s, (cell_of b0 0).trans rfl, (cell_of b2 7).trans rfl, (cell_of bg _).trans ?_, (cell_of bg _).trans ?_, (cell_of bg _).trans ?_, (cell_of bg _).trans ?_, frozen_of bg _, frozen_of bg _, frozen_of bg _, frozen_of bg _⟩
  · rw [List.getElem?_toArray]; exact g0
  · rw [List.getElem?_toArray]; exact g1
  · rw [List.getElem?_toArray]; exact g2
  · rw [List.getElem?_toArray]; exact g3
theorem Lp.cells2 {w wr : World} {cb : Nat} {a : Option Addr} {cap : Nat} {l : List Int} {x0 x1 x2 x3 x4 x5 x6 n g j : Nat} {ds : List OpM} {q : Nat} (h : Lp w wr cb a cap l x0 x1 x2 x3 x4 x5 x6 n g j ds q) (hg : w.heap.size + 1 + 1 < g) (W : World) (s : Same (fun k => k = cb ∨ k = g) wr W) :
    Same (fun k => k = cb ∨ k = g) wr W ∧ W.cell? ⟨w.heap.size, 0, none⟩ = some (.pointer (some ⟨cb, 0, none⟩)) ∧ W.cell? ⟨w.heap.size + 1 + 1, 7, none⟩ = some (.slice (some ⟨g, 0, none⟩) n n) := by
  have hlt := h.fr.lt
  have b0 := (s.block _ (lt_of_heap h.fr.b0) (by omega)).trans h.fr.b0
  have b2 := (s.block _ (lt_of_heap h.fr.b2) (by omega)).trans h.fr.b2
  exact ⟨s, (cell_of b0 0).trans rfl, (cell_of b2 7).trans rfl⟩
/-- One operation more. -/
theorem Lp.next {w wr : World} {cb : Nat} {a : Option Addr} {cap : Nat} {l : List Int} {x0 x1 x2 x3 x4 x5 x6 n g j : Nat} {ds : List OpM} {q : Nat} (h : Lp w wr cb a cap l x0 x1 x2 x3 x4 x5 x6 n g j ds q) (hj : j < n) (hg : w.heap.size + 1 + 1 < g) {W : World} (s : Same (fun k => k = cb) wr W) {o : OpM} {q2 : Nat} (u : Cu W cb a cap l q2 0) (hr : run pgO (l.drop q) q = .ok (o, q2)) :
    Lp w ((((W.setCell ⟨g, j * 4, none⟩ (.int .i64 o.kind)).setCell ⟨g, j * 4 + 1, none⟩ (.string o.key)).setCell ⟨g, j * 4 + 2, none⟩ (.bool o.found)).setCell ⟨g, j * 4 + 3, none⟩ (.string o.value)) cb a cap l x0 x1 x2 x3 x4 x5 x6 n g (j + 1) (ds ++ [o]) q2 := by
  have hlt := h.fr.lt
  have bg := (s.block _ (lt_of_heap h.blk) (by omega)).trans h.blk
  have f1 := h.fr.call s u
  have k : Same (fun k => k = g) W ((((W.setCell ⟨g, j * 4, none⟩ (.int .i64 o.kind)).setCell ⟨g, j * 4 + 1, none⟩ (.string o.key)).setCell ⟨g, j * 4 + 2, none⟩ (.bool o.found)).setCell ⟨g, j * 4 + 3, none⟩ (.string o.value)) :=
    ((((Same.refl (fun k => k = g) W).setCell _ (.inr rfl) _).setCell _ (.inr rfl) _).setCell _ (.inr rfl) _).setCell _ (.inr rfl) _
  refine ⟨⟨f1.same.trans k (fun i hi e => by omega), (k.block _ (lt_of_heap f1.b0) (by omega)).trans f1.b0, (k.block _ (lt_of_heap f1.b1) (by omega)).trans f1.b1, (k.block _ (lt_of_heap f1.b2) (by omega)).trans f1.b2, f1.cu.keptN k (by omega) (fun i hi => by have := f1.inb i hi; omega), f1.lt, f1.inb⟩, by simp [h.len], ?_, ?_⟩
  · refine (setCell_at (setCell_at (setCell_at (setCell_at bg _ _) _ _) _ _) _ _).trans ?_
    simp only [List.setIfInBounds_toArray]
    rw [opc_set _ _ _ (by simp [h.len]; omega)]
    congr 4
    rw [List.set_append_right _ _ (by rw [h.len]; exact Nat.le_refl _), h.len, Nat.sub_self, show n - j = (n - (j + 1)) + 1 by omega, List.replicate_succ, List.set_cons_zero, List.append_assoc]
    rfl
  · have hm : n - j = (n - (j + 1)) + 1 := by omega
    have e := h.eqn
    rw [hm] at e
    simp only [pgOs] at e
    rw [run_bind, hr] at e
    simp only at e
    rw [run_bind] at e
    obtain ⟨r1, r2, -, -⟩ := run_ok (h.fr.cu.byts.drop q) hr
    rw [List.drop_drop, show q + (q2 - q) = q2 by omega] at e
    rw [e]
    cases run (pgOs (n - (j + 1))) (l.drop q2) q2 with
    | error e => rfl
    | ok x =>
      obtain ⟨os, q'⟩ := x
      simp [run]
theorem Lp.stop {w wr : World} {cb : Nat} {a : Option Addr} {cap : Nat} {l : List Int} {x0 x1 x2 x3 x4 x5 x6 n g j : Nat} {ds : List OpM} {q : Nat} (h : Lp w wr cb a cap l x0 x1 x2 x3 x4 x5 x6 n g j ds q) (hj : j < n) {pz : Nat × Int} (hr : run pgO (l.drop q) q = .error pz) : decode l = .error pz := by
  have hm : n - j = (n - (j + 1)) + 1 := by omega
  have e := h.eqn
  rw [hm] at e
  simp only [pgOs] at e
  rw [run_bind, hr] at e
  exact decode_err e
theorem Lp.done {w wr : World} {cb : Nat} {a : Option Addr} {cap : Nat} {l : List Int} {x0 x1 x2 x3 x4 x5 x6 n g : Nat} {ds : List OpM} {q : Nat} (h : Lp w wr cb a cap l x0 x1 x2 x3 x4 x5 x6 n g n ds q) : run pgT l 0 = .ok (⟨x0, x1, x2, x3, x4, x5, x6, ds⟩, q) := by
  have e := h.eqn
  rw [Nat.sub_self] at e
  simpa [pgOs, run] using e
set_option maxRecDepth 100000 in
set_option maxHeartbeats 6400000 in
theorem txn_any (h : Cu w cb a cap l 0 0) : Calls Try.prog 58 #[rdV cb] w (TxP w cb l) := by
  have HA : Hid (∀ W q, Cu W cb a cap l q 0 → Calls Try.prog 61 #[.agg #[.pointer (some ⟨cb, 0, none⟩)], .int .i64 1048575] W (RdP W cb a cap l q (.nm 1048575) fun x => .int .i64 x.1)) := fun W q (h : Cu W cb a cap l q 0) => rnumber_any h 1048575
  have HB : Hid (∀ W q, Cu W cb a cap l q 0 → Calls Try.prog 61 #[.agg #[.pointer (some ⟨cb, 0, none⟩)], .int .i64 1099511627776] W (RdP W cb a cap l q (.nm 1099511627776) fun x => .int .i64 x.1)) := fun W q (h : Cu W cb a cap l q 0) => rnumber_any h 1099511627776
  have HC : Hid (∀ W q, Cu W cb a cap l q 0 → Calls Try.prog 61 #[.agg #[.pointer (some ⟨cb, 0, none⟩)], .int .i64 1] W (RdP W cb a cap l q (.nm 1) fun x => .int .i64 x.1)) := fun W q (h : Cu W cb a cap l q 0) => rnumber_any h 1
  have HD : Hid (∀ W q, Cu W cb a cap l q 0 → Calls Try.prog 61 #[.agg #[.pointer (some ⟨cb, 0, none⟩)], .int .i64 16] W (RdP W cb a cap l q (.nm 16) fun x => .int .i64 x.1)) := fun W q (h : Cu W cb a cap l q 0) => rnumber_any h 16
  have HO : Hid (∀ W q, Cu W cb a cap l q 0 → Calls Try.prog 62 #[.agg #[.pointer (some ⟨cb, 0, none⟩)]] W (RoP W cb a cap l q)) := fun W q (h : Cu W cb a cap l q 0) => rop_any h
  have HL : Hid (∀ W q, Cu W cb a cap l q 0 → _) := fun W q (h : Cu W cb a cap l q 0) => left_any h
  have HF : Hid (∀ W q, Cu W cb a cap l q 0 → _) := fun W q (h : Cu W cb a cap l q 0) => offset_any h
  have HBY : Hid (Byts l) := h.byts
  have F0 : Hid _ := Fr.start h
  have R0 : Hid (run pgT l 0 = run pgT (l.drop 0) 0) := by show run pgT l 0 = run pgT (l.drop 0) 0; rw [List.drop_zero]
  unfold pgT at R0
  unfold rdV
  clear h
  go_enter Try.func58, Try.ntmps58
  go_wp2_with fail
  refine Calls.mono (HA.out _ _ F0.out.cu) ?_
  rintro e w1 ⟨s1, p1⟩
  rcases h1 : rd (.nm 1048575) (l.drop (0)) with z | ⟨⟨x0, y⟩, n0⟩
  · rw [h1] at p1
    simp only at p1
    subst p1
    unfold thr
    go_wp2_with fail
    refine ⟨rfl, F0.out.same.trans' s1, ?_⟩
    rw [decode_err (R0.out.trans (run_ask_err h1))]
    rfl
  rw [h1] at p1
  simp only at p1
  obtain ⟨rfl, u1⟩ := p1
  have f1 := Fr.call F0.out s1 u1
  have c0 : w1.cell? ⟨w.heap.size, 0, none⟩ = some (.pointer (some ⟨cb, 0, none⟩)) := (cell_of f1.b0 0).trans rfl
  have c1 : w1.cell? ⟨w.heap.size + 1 + 1, 0, none⟩ = some (.int .i64 0) := (cell_of f1.b2 0).trans rfl
  have z1 : w1.frozen? ⟨w.heap.size + 1 + 1, 0, none⟩ = false := frozen_of f1.b2 0
  have F1 : Hid (Fr w (w1.setCell ⟨w.heap.size + 1 + 1, 0, none⟩ (.int .i64 (x0 : Int))) cb a cap l (0 + n0) #[.int .i64 (x0 : Int), .int .i64 0, .int .i64 0, .int .i64 0, .int .i64 0, .int .i64 0, .int .i64 0, .slice none 0 0]) := f1.put 0 (.int .i64 (x0 : Int))
  have R1 : Hid (run pgT l 0 = _) := R0.out.trans (run_ask_ok h1)
  rw [List.drop_drop] at R1
  generalize 0 + n0 = q1 at F1 R1
  clear s1 u1 f1 h1 F0 R0
  go_wp2_with fail
  clear c0 c1 z1
  refine Calls.mono (HA.out _ _ F1.out.cu) ?_
  rintro e w2 ⟨s1, p1⟩
  rcases h1 : rd (.nm 1048575) (l.drop (q1)) with z | ⟨⟨x1, y⟩, n1⟩
  · rw [h1] at p1
    simp only at p1
    subst p1
    unfold thr
    go_wp2_with fail
    refine ⟨rfl, F1.out.same.trans' s1, ?_⟩
    rw [decode_err (R1.out.trans (run_ask_err h1))]
    rfl
  rw [h1] at p1
  simp only at p1
  obtain ⟨rfl, u1⟩ := p1
  have f1 := Fr.call F1.out s1 u1
  have c0 : w2.cell? ⟨w.heap.size, 0, none⟩ = some (.pointer (some ⟨cb, 0, none⟩)) := (cell_of f1.b0 0).trans rfl
  have c1 : w2.cell? ⟨w.heap.size + 1 + 1, 1, none⟩ = some (.int .i64 0) := (cell_of f1.b2 1).trans rfl
  have z1 : w2.frozen? ⟨w.heap.size + 1 + 1, 1, none⟩ = false := frozen_of f1.b2 1
  have F2 : Hid (Fr w (w2.setCell ⟨w.heap.size + 1 + 1, 1, none⟩ (.int .i64 (x1 : Int))) cb a cap l (q1 + n1) #[.int .i64 (x0 : Int), .int .i64 (x1 : Int), .int .i64 0, .int .i64 0, .int .i64 0, .int .i64 0, .int .i64 0, .slice none 0 0]) := f1.put 1 (.int .i64 (x1 : Int))
  have R2 : Hid (run pgT l 0 = _) := R1.out.trans (run_ask_ok h1)
  rw [List.drop_drop] at R2
  generalize q1 + n1 = q2 at F2 R2
  clear s1 u1 f1 h1 F1 R1
  go_wp2_with fail
  clear c0 c1 z1
  refine Calls.mono (HB.out _ _ F2.out.cu) ?_
  rintro e w3 ⟨s1, p1⟩
  rcases h1 : rd (.nm 1099511627776) (l.drop (q2)) with z | ⟨⟨x2, y⟩, n2⟩
  · rw [h1] at p1
    simp only at p1
    subst p1
    unfold thr
    go_wp2_with fail
    refine ⟨rfl, F2.out.same.trans' s1, ?_⟩
    rw [decode_err (R2.out.trans (run_ask_err h1))]
    rfl
  rw [h1] at p1
  simp only at p1
  obtain ⟨rfl, u1⟩ := p1
  have f1 := Fr.call F2.out s1 u1
  have c0 : w3.cell? ⟨w.heap.size, 0, none⟩ = some (.pointer (some ⟨cb, 0, none⟩)) := (cell_of f1.b0 0).trans rfl
  have c1 : w3.cell? ⟨w.heap.size + 1 + 1, 2, none⟩ = some (.int .i64 0) := (cell_of f1.b2 2).trans rfl
  have z1 : w3.frozen? ⟨w.heap.size + 1 + 1, 2, none⟩ = false := frozen_of f1.b2 2
  have F3 : Hid (Fr w (w3.setCell ⟨w.heap.size + 1 + 1, 2, none⟩ (.int .i64 (x2 : Int))) cb a cap l (q2 + n2) #[.int .i64 (x0 : Int), .int .i64 (x1 : Int), .int .i64 (x2 : Int), .int .i64 0, .int .i64 0, .int .i64 0, .int .i64 0, .slice none 0 0]) := f1.put 2 (.int .i64 (x2 : Int))
  have R3 : Hid (run pgT l 0 = _) := R2.out.trans (run_ask_ok h1)
  rw [List.drop_drop] at R3
  generalize q2 + n2 = q3 at F3 R3
  clear s1 u1 f1 h1 F2 R2
  go_wp2_with fail
  clear c0 c1 z1
  refine Calls.mono (HB.out _ _ F3.out.cu) ?_
  rintro e w4 ⟨s1, p1⟩
  rcases h1 : rd (.nm 1099511627776) (l.drop (q3)) with z | ⟨⟨x3, y⟩, n3⟩
  · rw [h1] at p1
    simp only at p1
    subst p1
    unfold thr
    go_wp2_with fail
    refine ⟨rfl, F3.out.same.trans' s1, ?_⟩
    rw [decode_err (R3.out.trans (run_ask_err h1))]
    rfl
  rw [h1] at p1
  simp only at p1
  obtain ⟨rfl, u1⟩ := p1
  have f1 := Fr.call F3.out s1 u1
  have c0 : w4.cell? ⟨w.heap.size, 0, none⟩ = some (.pointer (some ⟨cb, 0, none⟩)) := (cell_of f1.b0 0).trans rfl
  have c1 : w4.cell? ⟨w.heap.size + 1 + 1, 3, none⟩ = some (.int .i64 0) := (cell_of f1.b2 3).trans rfl
  have z1 : w4.frozen? ⟨w.heap.size + 1 + 1, 3, none⟩ = false := frozen_of f1.b2 3
  have F4 : Hid (Fr w (w4.setCell ⟨w.heap.size + 1 + 1, 3, none⟩ (.int .i64 (x3 : Int))) cb a cap l (q3 + n3) #[.int .i64 (x0 : Int), .int .i64 (x1 : Int), .int .i64 (x2 : Int), .int .i64 (x3 : Int), .int .i64 0, .int .i64 0, .int .i64 0, .slice none 0 0]) := f1.put 3 (.int .i64 (x3 : Int))
  have R4 : Hid (run pgT l 0 = _) := R3.out.trans (run_ask_ok h1)
  rw [List.drop_drop] at R4
  generalize q3 + n3 = q4 at F4 R4
  clear s1 u1 f1 h1 F3 R3
  go_wp2_with fail
  clear c0 c1 z1
  refine Calls.mono (HB.out _ _ F4.out.cu) ?_
  rintro e w5 ⟨s1, p1⟩
  rcases h1 : rd (.nm 1099511627776) (l.drop (q4)) with z | ⟨⟨x4, y⟩, n4⟩
  · rw [h1] at p1
    simp only at p1
    subst p1
    unfold thr
    go_wp2_with fail
    refine ⟨rfl, F4.out.same.trans' s1, ?_⟩
    rw [decode_err (R4.out.trans (run_ask_err h1))]
    rfl
  rw [h1] at p1
  simp only at p1
  obtain ⟨rfl, u1⟩ := p1
  have f1 := Fr.call F4.out s1 u1
  have c0 : w5.cell? ⟨w.heap.size, 0, none⟩ = some (.pointer (some ⟨cb, 0, none⟩)) := (cell_of f1.b0 0).trans rfl
  have c1 : w5.cell? ⟨w.heap.size + 1 + 1, 4, none⟩ = some (.int .i64 0) := (cell_of f1.b2 4).trans rfl
  have z1 : w5.frozen? ⟨w.heap.size + 1 + 1, 4, none⟩ = false := frozen_of f1.b2 4
  have F5 : Hid (Fr w (w5.setCell ⟨w.heap.size + 1 + 1, 4, none⟩ (.int .i64 (x4 : Int))) cb a cap l (q4 + n4) #[.int .i64 (x0 : Int), .int .i64 (x1 : Int), .int .i64 (x2 : Int), .int .i64 (x3 : Int), .int .i64 (x4 : Int), .int .i64 0, .int .i64 0, .slice none 0 0]) := f1.put 4 (.int .i64 (x4 : Int))
  have R5 : Hid (run pgT l 0 = _) := R4.out.trans (run_ask_ok h1)
  rw [List.drop_drop] at R5
  generalize q4 + n4 = q5 at F5 R5
  clear s1 u1 f1 h1 F4 R4
  go_wp2_with fail
  clear c0 c1 z1
  refine Calls.mono (HB.out _ _ F5.out.cu) ?_
  rintro e w6 ⟨s1, p1⟩
  rcases h1 : rd (.nm 1099511627776) (l.drop (q5)) with z | ⟨⟨x5, y⟩, n5⟩
  · rw [h1] at p1
    simp only at p1
    subst p1
    unfold thr
    go_wp2_with fail
    refine ⟨rfl, F5.out.same.trans' s1, ?_⟩
    rw [decode_err (R5.out.trans (run_ask_err h1))]
    rfl
  rw [h1] at p1
  simp only at p1
  obtain ⟨rfl, u1⟩ := p1
  have f1 := Fr.call F5.out s1 u1
  have c0 : w6.cell? ⟨w.heap.size, 0, none⟩ = some (.pointer (some ⟨cb, 0, none⟩)) := (cell_of f1.b0 0).trans rfl
  have c1 : w6.cell? ⟨w.heap.size + 1 + 1, 5, none⟩ = some (.int .i64 0) := (cell_of f1.b2 5).trans rfl
  have z1 : w6.frozen? ⟨w.heap.size + 1 + 1, 5, none⟩ = false := frozen_of f1.b2 5
  have F6 : Hid (Fr w (w6.setCell ⟨w.heap.size + 1 + 1, 5, none⟩ (.int .i64 (x5 : Int))) cb a cap l (q5 + n5) #[.int .i64 (x0 : Int), .int .i64 (x1 : Int), .int .i64 (x2 : Int), .int .i64 (x3 : Int), .int .i64 (x4 : Int), .int .i64 (x5 : Int), .int .i64 0, .slice none 0 0]) := f1.put 5 (.int .i64 (x5 : Int))
  have R6 : Hid (run pgT l 0 = _) := R5.out.trans (run_ask_ok h1)
  rw [List.drop_drop] at R6
  generalize q5 + n5 = q6 at F6 R6
  clear s1 u1 f1 h1 F5 R5
  go_wp2_with fail
  clear c0 c1 z1
  refine Calls.mono (HC.out _ _ F6.out.cu) ?_
  rintro e w7 ⟨s1, p1⟩
  rcases h1 : rd (.nm 1) (l.drop (q6)) with z | ⟨⟨x6, y⟩, n6⟩
  · rw [h1] at p1
    simp only at p1
    subst p1
    unfold thr
    go_wp2_with fail
    refine ⟨rfl, F6.out.same.trans' s1, ?_⟩
    rw [decode_err (R6.out.trans (run_ask_err h1))]
    rfl
  rw [h1] at p1
  simp only at p1
  obtain ⟨rfl, u1⟩ := p1
  have f1 := Fr.call F6.out s1 u1
  have c0 : w7.cell? ⟨w.heap.size, 0, none⟩ = some (.pointer (some ⟨cb, 0, none⟩)) := (cell_of f1.b0 0).trans rfl
  have c1 : w7.cell? ⟨w.heap.size + 1 + 1, 6, none⟩ = some (.int .i64 0) := (cell_of f1.b2 6).trans rfl
  have z1 : w7.frozen? ⟨w.heap.size + 1 + 1, 6, none⟩ = false := frozen_of f1.b2 6
  have F7 : Hid (Fr w (w7.setCell ⟨w.heap.size + 1 + 1, 6, none⟩ (.int .i64 (x6 : Int))) cb a cap l (q6 + n6) #[.int .i64 (x0 : Int), .int .i64 (x1 : Int), .int .i64 (x2 : Int), .int .i64 (x3 : Int), .int .i64 (x4 : Int), .int .i64 (x5 : Int), .int .i64 (x6 : Int), .slice none 0 0]) := f1.put 6 (.int .i64 (x6 : Int))
  have R7 : Hid (run pgT l 0 = _) := R6.out.trans (run_ask_ok h1)
  rw [List.drop_drop] at R7
  generalize q6 + n6 = q7 at F7 R7
  clear s1 u1 f1 h1 F6 R6
  go_wp2_with fail
  clear c0 c1 z1
  refine Calls.mono (HD.out _ _ F7.out.cu) ?_
  rintro e w8 ⟨s1, p1⟩
  rcases h1 : rd (.nm 16) (l.drop (q7)) with z | ⟨⟨x7, y⟩, n7⟩
  · rw [h1] at p1
    simp only at p1
    subst p1
    unfold thr
    go_wp2_with fail
    refine ⟨rfl, F7.out.same.trans' s1, ?_⟩
    rw [decode_err (R7.out.trans (run_ask_err h1))]
    rfl
  rw [h1] at p1
  simp only at p1
  obtain ⟨rfl, u1⟩ := p1
  have f1 := Fr.call F7.out s1 u1
  have c0 : w8.cell? ⟨w.heap.size, 0, none⟩ = some (.pointer (some ⟨cb, 0, none⟩)) := (cell_of f1.b0 0).trans rfl
  have c1 : w8.cell? ⟨w.heap.size + 1 + 1, 7, none⟩ = some (.slice none 0 0) := (cell_of f1.b2 7).trans rfl
  have z1 : w8.frozen? ⟨w.heap.size + 1 + 1, 7, none⟩ = false := frozen_of f1.b2 7
  have hlt8 : w.heap.size + 1 + 1 < w8.heap.size := lt_of_heap f1.b2
  have hlt8' : w.heap.size < w8.heap.size := by omega
  have h16 : x7 ≤ 16 := (one_nm (HBY.out.drop _) h1).1
  have hmk : ∀ W : World, _ := fun W => make_ops W x7 h16
  have F8 : Hid _ := f1
  have R8 : Hid (run pgT l 0 = _) := R7.out.trans (run_ask_ok h1)
  rw [List.drop_drop] at R8
  generalize q7 + n7 = q8 at F8 R8
  obtain ⟨g, eg⟩ : ∃ g, g = w8.heap.size := ⟨_, rfl⟩
  have hg : w.heap.size + 1 + 1 < g := by omega
  have hs8 : (w8.setCell ⟨w.heap.size + 1 + 1, 7, none⟩ (.slice (some ⟨g, 0, none⟩) x7 x7)).heap.size = g := by rw [eg]; simp [World.setCell]
  have LP : Hid (Lp w ((w8.setCell ⟨w.heap.size + 1 + 1, 7, none⟩ (.slice (some ⟨g, 0, none⟩) x7 x7)).alloc (.cells (opc (List.replicate x7 z0)).toArray 42)) cb a cap l x0 x1 x2 x3 x4 x5 x6 x7 g 0 [] q8) := by
    have h0 := (F8.out.put 7 (.slice (some ⟨g, 0, none⟩) x7 x7)).on ((Same.refl (fun _ => False) _).alloc (.cells (opc (List.replicate x7 z0)).toArray 42 (0, 0)))
    refine ⟨h0, rfl, ?_, ?_⟩
    · have := heap_new (w8.setCell ⟨w.heap.size + 1 + 1, 7, none⟩ (.slice (some ⟨g, 0, none⟩) x7 x7)) (.cells (opc (List.replicate x7 z0)).toArray 42 (0, 0))
      rw [hs8] at this
      rw [Nat.sub_zero, List.nil_append]
      exact this
    · have := R8.out
      rw [run_bind] at this
      rw [this, Nat.sub_zero]
      simp only
      cases run (pgOs x7) (l.drop q8) q8 with
      | error e => rfl
      | ok x =>
        obtain ⟨os, q'⟩ := x
        rfl
  rw [eg] at LP hg
  clear s1 u1 f1 h1 F7 R7 F8 R8 eg hs8
  go_wp2_with fail
  go_loopw [33] (fun i wr => ∃ (j : Nat) (ds : List OpM) (q : Nat), i = .int .i64 j ∧ j ≤ x7 ∧ Lp w wr cb a cap l x0 x1 x2 x3 x4 x5 x6 x7 w8.heap.size j ds q) (fun i _ => x7 - (intOf i).toNat)
  case atStart => exact ⟨0, [], q8, rfl, Nat.zero_le _, LP.out⟩
  case round =>
    obtain ⟨j, ds, q, rfl, hj, hlp⟩ := hrel
    have HLP : Hid _ := hlp
    clear hlp LP c0 c1 z1
    generalize w8.heap.size = g at HLP hg hlt8 hlt8'
    by_cases hlt : j < x7
    · have d1 : decide ((j : Int) < (x7 : Int)) = true := decide_eq_true (by omega)
      have hlt2 : (j : Int) < (x7 : Int) := by omega
      have HX : Hid (∀ W, Same (fun k => k = cb) _ W → _) := fun W s => HLP.out.cells hlt hg W s
      rcases hr : run pgO (l.drop q) q with pz | ⟨o, q2⟩
      · obtain ⟨p, z⟩ := pz
        have HE : Hid _ := HLP.out.stop hlt hr
        have HNO : Hid (∀ W, Cu W cb a cap l q 0 → Calls Try.prog 62 #[.agg #[.pointer (some ⟨cb, 0, none⟩)]] W fun e w' => e = thr p z ∧ Same (fun k => k = cb) W w') := fun W u => by
          refine Calls.mono (HO.out W q u) ?_
          rintro e w' ⟨s, m⟩
          rw [hr] at m
          exact ⟨m, s⟩
        have HTP : Hid (∀ w1, Same (fun k => k = cb) w w1 → TxP w cb l (.panicked [{ v := thrV p z, recovered := false }]) w1) := fun w1 s => ⟨s, by rw [HE.out]; rfl⟩
        unfold thr at HNO
        have HX2 : Hid (∀ W, Same (fun k => k = cb ∨ k = g) wr W → _) := fun W s => HLP.out.cells2 hg W s
        clear hr HA HB HC HD HO HL HF HE HX
        go_wp2_with fail
        refine wp_region_held_drew (S := fun w' => Same (fun k => k = cb ∨ k = g) wr w' ∧ w'.cell? ⟨w.heap.size, 0, none⟩ = some (.pointer (some ⟨cb, 0, none⟩)) ∧ w'.cell? ⟨w.heap.size + 1 + 1, 7, none⟩ = some (.slice (some ⟨g, 0, none⟩) x7 x7)) (by kernel_rfl) (HX2.out _ (Same.drew (Same.refl _ _))) (fun hHeld => ?_)
        refine wpAnyH_take (i := 0) (v := .pointer (some ⟨w.heap.size + 1 + 1, 7, none⟩)) rfl (by kernel_rfl) (by kernel_rfl) (by kernel_rfl) (fun _ _ _ h => h) (Or.inl ⟨by rfl, fun w hSw => by (dsimp only at hSw; go_simp)⟩) (by assumption) ?_
        (try simp only [Act.put, List.setIfInBounds_toArray])
        refine wpAnyH_take (i := 1) (v := .slice (some ⟨g, 0, none⟩) x7 x7) rfl (by kernel_rfl) (by kernel_rfl) (by kernel_rfl) (fun _ _ _ h => h) (Or.inl ⟨by rfl, fun w hSw => by (dsimp only at hSw; go_simp)⟩) (by assumption) ?_
        (try simp only [Act.put])
        refine wpAnyH_take (i := 2) (v := .int .i64 (j : Int)) rfl (by kernel_rfl) (by kernel_rfl) (by kernel_rfl) (fun _ _ _ h => h) (Or.inl ⟨by rfl, fun w hSw => by (dsimp only at hSw; go_simp)⟩) (by assumption) ?_
        (try simp only [Act.put])
        refine wpAnyH_take (i := 3) (v := .agg #[.pointer (some ⟨cb, 0, none⟩)]) rfl (by kernel_rfl) (by kernel_rfl) (by kernel_rfl) (fun _ _ _ h => h) (Or.inl ⟨by rfl, fun w hSw => by (dsimp only at hSw; go_simp)⟩) (by assumption) ?_
        (try simp only [Act.put])
        refine wpAnyH_ready (rs := [4]) (by kernel_rfl) (by simp) (AllReadyH.cons rfl (fun K hK => ?_) AllReadyH.nil)
        go_simp
        refine Calls.mono (HNO.out _ (HLP.out.fr.cu.on (Same.drew (Same.refl _ _)))) ?_
        rintro r w1 ⟨rfl, k1⟩
        exact ⟨rfl, HTP.out _ (HLP.out.fr.same.trans' ((Same.drew (Same.refl _ _)).trans' k1))⟩
      · have HOK : Hid (∀ W, Cu W cb a cap l q 0 → Calls Try.prog 62 #[.agg #[.pointer (some ⟨cb, 0, none⟩)]] W fun e w' => e = .returned (opV o) ∧ Same (fun k => k = cb) W w' ∧ Cu w' cb a cap l q2 0) := fun W u => by
          refine Calls.mono (HO.out W q u) ?_
          rintro e w' ⟨s, m⟩
          rw [hr] at m
          exact ⟨m.1, s, m.2⟩
        have HR : Hid _ := hr
        have HX2 : Hid (∀ W, Same (fun k => k = cb ∨ k = g) wr W → _) := fun W s => HLP.out.cells2 hg W s
        unfold opV at HOK
        clear hr HA HB HC HD HO HL HF
        go_wp2_with fail
        go_region_held3 (fun w' => Same (fun k => k = cb ∨ k = g) wr w' ∧ w'.cell? ⟨w.heap.size, 0, none⟩ = some (.pointer (some ⟨cb, 0, none⟩)) ∧ w'.cell? ⟨w.heap.size + 1 + 1, 7, none⟩ = some (.slice (some ⟨g, 0, none⟩) x7 x7))
          (exact HX2.out _ (by (repeat (first | exact Same.refl _ _ | apply Same.drew | refine Same.trans' ?_ (k1.mono (fun _ _ e => .inl e)) | refine Same.setCell ?_ _ (.inr (.inr rfl)) _)); done))
          (first
            | (go_at_call 62; refine Calls.mono (HOK.out _ (HLP.out.fr.cu.on (by (repeat (first | exact Same.refl _ _ | apply Same.drew)); done))) ?_; rintro r w1 ⟨rfl, k1, u1⟩; obtain ⟨-, -, -, i0, i1, i2, i3, i4, i5, i6, i7⟩ := HX.out w1 (by (repeat (first | exact Same.refl _ _ | apply Same.drew | refine Same.trans' ?_ k1)); done)))
        all_goals
          go_wp2_with fail
          go_roundw
          case rel => exact ⟨j + 1, ds ++ [o], q2, by congr 1, hlt, HLP.out.next hlt hg (by (repeat (first | exact Same.refl _ _ | apply Same.drew | refine Same.trans' ?_ k1)); done) u1 HR.out⟩
          case measure => simp only [intOf]; omega
    · obtain rfl : j = x7 := by omega
      have d1 : decide ((j : Int) < (j : Int)) = false := decide_eq_false (by omega)
      have HRUN : Hid _ := HLP.out.done
      have HLL : Hid _ := HL.out _ _ HLP.out.fr.cu
      have cc0 : wr.cell? ⟨w.heap.size, 0, none⟩ = some (.pointer (some ⟨cb, 0, none⟩)) := (cell_of HLP.out.fr.b0 0).trans rfl
      obtain ⟨D, eD⟩ : ∃ D, D = l.length - q := ⟨_, rfl⟩
      rw [← eD] at HLL
      have ED : Hid _ := eD
      clear HA HB HC HD HO HL eD
      by_cases hD : 0 < D
      · have hD1 : decide (0 < (D : Int)) = true := decide_eq_true (by omega)
        have hD2 : 0 < (D : Int) := by omega
        have HOFF : Hid (∀ W, Kept wr W → _) := fun W (k : Kept wr W) => HF.out W q (HLP.out.fr.cu.on k)
        clear HF
        go_wp2_with fail
        refine Calls.mono HLL.out ?_
        rintro r w1 ⟨rfl, k1⟩
        have cc1 : w1.cell? ⟨w.heap.size, 0, none⟩ = some (.pointer (some ⟨cb, 0, none⟩)) := (k1.cell (p := ⟨w.heap.size, 0, none⟩) (lt_of_heap HLP.out.fr.b0) (fun h => h)).trans cc0
        have K1 : Hid _ := k1
        clear k1
        go_wp2_with fail
        refine Calls.mono (HOFF.out _ K1.out) ?_
        rintro r w2 ⟨rfl, rfl⟩
        go_wp2_with fail
        refine ⟨rfl, HLP.out.fr.same.trans' (Kept.to K1.out _), ?_⟩
        rw [decode_more HRUN.out (by have := ED.out; omega)]
        rfl
      · obtain rfl : D = 0 := by omega
        clear HF
        go_wp2_with fail
        refine Calls.mono HLL.out ?_
        rintro r w1 ⟨rfl, k1⟩
        have f1 := HLP.out.fr.on k1
        obtain ⟨⟨e0, e1, e2, e3, e4, e5, e6, e7⟩, -⟩ := tx_obj f1.b2
        obtain ⟨⟨g0, g1, g2, g3, g4, g5, g6, g7⟩, y0, y1, y2, y3, y4, y5, y6, y7⟩ := tx_obj f1.b1
        have F1 : Hid _ := f1
        have K1 : Hid _ := k1
        clear k1 f1
        go_wp2_with fail
        refine bodyPost_ret (results_c (a := 2) (t := 40) rfl rfl (loadVar_tx (put8_at F1.out.b1 _ _ _ _ _ _ _ _))) rfl ⟨?_, ?_⟩
        · exact F1.out.same.trans (put8_same _ _ _ _ _ _ _ _ _ _) (fun i hi e => by omega)
        · rw [decode_all HRUN.out (by have := ED.out; omega)]
          refine ⟨_, rfl, ?_⟩
          have hb := (K1.out.block _ (lt_of_heap HLP.out.blk) (fun h => h)).trans HLP.out.blk
          rw [Nat.sub_self, List.replicate_zero, List.append_nil] at hb
          have hb2 := ((put8_same w1 (w.heap.size + 1) (.int .i64 (x0 : Int)) (.int .i64 (x1 : Int)) (.int .i64 (x2 : Int)) (.int .i64 (x3 : Int)) (.int .i64 (x4 : Int)) (.int .i64 (x5 : Int)) (.int .i64 (x6 : Int)) (.slice (some ⟨g, 0, none⟩) j j)).block _ (lt_of_heap hb) (by omega)).trans hb
          have := own_ops (base := w.heap.size) (by omega) (by rw [HLP.out.len]; exact h16) hb2
          rw [HLP.out.len] at this
          exact this
end
end Go.Proofs.Ytflemfohnpjeaaa
