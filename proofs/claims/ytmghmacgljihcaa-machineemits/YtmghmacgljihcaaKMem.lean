/- What is proved: plain facts on operations, times, transactions and sessions that lie in memory, and on the machine's blocks told apart by tags; no condition. -/
import Derived.Test.YtmghmacgljihcaaKModel
import Derived.Test.YtmghmacgljihcaaCIns
namespace Go.Proofs.Ytmghmacgljihcaa
open Go.RowKit

/-- The cells of operations. -/
def opc (l : List OpM) : List Value := l.flatMap fun o => [.int .i64 o.kind, .string o.key, .bool o.found, .string o.value]
theorem length_opc (l : List OpM) : (opc l).length = l.length * 4 := by
  induction l with
  | nil => rfl
  | cons a r ih => simp only [opc, List.flatMap_cons, List.length_append, List.length_cons, List.length_nil] at *; omega
theorem opc_cons (o : OpM) (r : List OpM) : opc (o :: r) = [.int .i64 o.kind, .string o.key, .bool o.found, .string o.value] ++ opc r := rfl
theorem opc_append (a b : List OpM) : opc (a ++ b) = opc a ++ opc b := by simp [opc]
theorem opc_get {l : List OpM} {i : Nat} {o : OpM} (h : l[i]? = some o) : (opc l)[i * 4]? = some (.int .i64 o.kind) ∧ (opc l)[i * 4 + 1]? = some (.string o.key) ∧ (opc l)[i * 4 + 2]? = some (.bool o.found) ∧ (opc l)[i * 4 + 3]? = some (.string o.value) := by
  induction l generalizing i with
  | nil => simp at h
  | cons a r ih =>
    cases i with
    | zero =>
      simp only [List.getElem?_cons_zero, Option.some.injEq] at h
      subst h
      simp [opc]
    | succ i =>
      simp only [List.getElem?_cons_succ] at h
      obtain ⟨h0, h1, h2, h3⟩ := ih h
      have e : ∀ j, (opc (a :: r))[(i + 1) * 4 + j]? = (opc r)[i * 4 + j]? := fun j => by
        rw [opc_cons, List.getElem?_append_right (by simp; omega)]
        congr 1
        simp; omega
      exact ⟨(e 0).trans h0, (e 1).trans h1, (e 2).trans h2, (e 3).trans h3⟩
theorem opc_one (l : List OpM) : ∀ v ∈ opc l, v.oneCell' = true := by
  intro v hv
  obtain ⟨o, _, hf⟩ := List.mem_flatMap.1 hv
  simp only [List.mem_cons, List.not_mem_nil, or_false] at hf
  rcases hf with rfl | rfl | rfl | rfl <;> rfl
theorem Try.infoOp : (Try.prog.info? 84).map (fun i => (i.zero, i.size, i.bytes)) = some (some (.agg #[.int .i64 0, .string .empty, .bool false, .string .empty]), 4, 48) := by kernel_rfl
theorem Try.infoInt : (Try.prog.info? 3).map (fun i => (i.zero, i.size, i.bytes)) = some (some (.int .i64 0), 1, 8) := by kernel_rfl
theorem Try.infoTxn : (Try.prog.info? 51).map (fun i => (i.zero, i.size, i.bytes)) = some (some (.agg #[.int .i64 0, .int .i64 0, .int .i64 0, .int .i64 0, .int .i64 0, .int .i64 0, .int .i64 0, .slice none 0 0]), 8, 80) := by kernel_rfl
/-- The operations l lie in w from address a on. -/
def OpsAt (w : World) (a : Option Addr) (l : List OpM) : Prop :=
  ∀ i o, l[i]? = some o → ∃ b off, a = some ⟨b, off, none⟩ ∧ b < w.heap.size ∧ w.cell? ⟨b, off + i * 4, none⟩ = some (.int .i64 o.kind) ∧ w.cell? ⟨b, off + i * 4 + 1, none⟩ = some (.string o.key) ∧
    w.cell? ⟨b, off + i * 4 + 2, none⟩ = some (.bool o.found) ∧ w.cell? ⟨b, off + i * 4 + 3, none⟩ = some (.string o.value)
theorem OpsAt.kept {S : Nat → Prop} {w w' : World} {a : Option Addr} {l : List OpM} (h : OpsAt w a l) (hs : Same S w w') (hd : ∀ k, InB a l.length k → ¬ S k) : OpsAt w' a l := fun i x hx => by
  obtain ⟨b, off, rfl, hb, c0, c1, c2, c3⟩ := h i x hx
  have hk := hd b ⟨pos_of_get hx, off, rfl⟩
  exact ⟨b, off, rfl, Nat.lt_of_lt_of_le hb hs.size, (hs.cell (p := ⟨b, _, none⟩) hb hk).trans c0, (hs.cell (p := ⟨b, _, none⟩) hb hk).trans c1, (hs.cell (p := ⟨b, _, none⟩) hb hk).trans c2, (hs.cell (p := ⟨b, _, none⟩) hb hk).trans c3⟩
theorem OpsAt.on {w w' : World} {a : Option Addr} {l : List OpM} (h : OpsAt w a l) (hs : Kept w w') : OpsAt w' a l := h.kept hs fun _ _ h => h
theorem add_at (b off j : Nat) : (Addr.mk b off none).add j = ⟨b, off + j, none⟩ := by simp [Addr.add]
theorem OpsAt.cells {w : World} {ad : Addr} {l : List OpM} (h : OpsAt w (some ad) l) : ∀ j u, (opc l)[j]? = some u → w.cell? (ad.add j) = some u := fun j u hu => by
  have hj : j < l.length * 4 := by rw [← length_opc]; exact (List.getElem?_eq_some_iff.1 hu).1
  have hi : j / 4 < l.length := by omega
  obtain ⟨b, off, e, hb, c0, c1, c2, c3⟩ := h (j / 4) _ (List.getElem?_eq_getElem hi)
  obtain ⟨g0, g1, g2, g3⟩ := opc_get (List.getElem?_eq_getElem hi)
  cases e
  have hm : j % 4 = 0 ∨ j % 4 = 1 ∨ j % 4 = 2 ∨ j % 4 = 3 := by omega
  have e4 : j = j / 4 * 4 + j % 4 := by omega
  rcases hm with h | h | h | h <;> rw [h] at e4
  · rw [Nat.add_zero] at e4
    rw [e4, g0] at hu; cases hu
    rw [add_at]
    rw [show off + j = off + j / 4 * 4 by omega]; exact c0
  · rw [e4, g1] at hu; cases hu
    rw [add_at]
    rw [show off + j = off + j / 4 * 4 + 1 by omega]; exact c1
  · rw [e4, g2] at hu; cases hu
    rw [add_at]
    rw [show off + j = off + j / 4 * 4 + 2 by omega]; exact c2
  · rw [e4, g3] at hu; cases hu
    rw [add_at]
    rw [show off + j = off + j / 4 * 4 + 3 by omega]; exact c3
theorem op_new (w : World) (o : OpM) : OpsAt (w.alloc (.cells #[.int .i64 o.kind, .string o.key, .bool o.found, .string o.value] 84 (0, 0))) (some ⟨w.heap.size, 0, none⟩) [o] := fun i y hy => by
  cases i with
  | zero =>
    simp only [List.getElem?_cons_zero, Option.some.injEq] at hy
    subst hy
    have h := heap_new w (.cells #[.int .i64 o.kind, .string o.key, .bool o.found, .string o.value] 84 (0, 0))
    exact ⟨w.heap.size, 0, rfl, by simp [World.size_alloc], (cell_of h _).trans rfl, (cell_of h _).trans rfl, (cell_of h _).trans rfl, (cell_of h _).trans rfl⟩
  | succ i => simp at hy
/-- The value v is a row of one's own: of operations; of numbers; of transactions. -/
def OwnO (base : Nat) (w : World) (v : Value) (l : List OpM) : Prop := w.ownsRow base 84 4 v l.length (opc l)
def OwnI (base : Nat) (w : World) (v : Value) (l : List Int) : Prop := w.ownsRow base 3 1 v l.length (l.map (Value.int .i64))
def txc (l : List (TxM × Value)) : List Value := l.flatMap fun x => [.int .i64 x.1.f0, .int .i64 x.1.f1, .int .i64 x.1.f2, .int .i64 x.1.f3, .int .i64 x.1.f4, .int .i64 x.1.f5, .int .i64 x.1.f6, x.2]
def OwnT (base : Nat) (w : World) (v : Value) (l : List (TxM × Value)) : Prop := w.ownsRow base 51 8 v l.length (txc l)
theorem row_kept {S : Nat → Prop} {base : Nat} {w w' : World} {e : TypeId} {n m : Nat} {v : Value} {l : List Value} (h : w.ownsRow base e n v m l) (hs : Same S w w') (hn : ∀ k, v.ownBlock = some k → ¬ S k) : w'.ownsRow base e n v m l := by
  rcases h.2 with ⟨rfl, h0⟩ | ⟨g, cap, cur, rfl, hb, hg, hr⟩
  · exact ⟨h.1, .inl ⟨rfl, h0⟩⟩
  · exact ⟨h.1, .inr ⟨g, cap, cur, rfl, hb, (hs.block _ (lt_of_heap hg) (hn g rfl)).trans hg, hr⟩⟩
theorem row_lower {base base' : Nat} {w : World} {e : TypeId} {n m : Nat} {v : Value} {l : List Value} (h : w.ownsRow base e n v m l) (hb : base' ≤ base) : w.ownsRow base' e n v m l := by
  rcases h.2 with ⟨rfl, h0⟩ | ⟨g, cap, cur, rfl, hb', hr⟩
  · exact ⟨h.1, .inl ⟨rfl, h0⟩⟩
  · exact ⟨h.1, .inr ⟨g, cap, cur, rfl, Nat.le_trans hb hb', hr⟩⟩
theorem row_block {base : Nat} {w : World} {e : TypeId} {n m : Nat} {v : Value} {l : List Value} (h : w.ownsRow base e n v m l) {k : Nat} (hk : v.ownBlock = some k) : base ≤ k ∧ ∃ cur, w.heap[k]? = some (.cells cur e (0, 0)) := by
  rcases h.2 with ⟨rfl, h0⟩ | ⟨g, cap, cur, rfl, hb, hg, hr⟩
  · cases hk
  · cases hk
    exact ⟨hb, _, hg⟩
theorem row_shape {base : Nat} {w : World} {e : TypeId} {n m : Nat} {v : Value} {l : List Value} (h : w.ownsRow base e n v m l) : ∃ a cap, v = .slice a m cap ∧ m ≤ cap ∧ (a = none → m = 0 ∧ cap = 0) ∧ (∀ ad, a = some ad → ∃ g, ad = ⟨g, 0, none⟩ ∧ base ≤ g ∧ g < w.heap.size) := by
  rcases h.2 with ⟨rfl, hn⟩ | ⟨g, cap, cur, rfl, hb, hg, h1, h2, h3, h4⟩
  · subst hn
    exact ⟨none, 0, rfl, Nat.le_refl _, fun _ => ⟨rfl, rfl⟩, fun _ e => (by cases e)⟩
  · exact ⟨_, cap, rfl, h1, fun e => (by cases e), fun ad e => (by cases e; exact ⟨g, rfl, hb, lt_of_heap hg⟩)⟩
theorem row_cell {base : Nat} {w : World} {e : TypeId} {n m : Nat} {a : Option Addr} {m' cap : Nat} {l : List Value} (h : w.ownsRow base e n (.slice a m' cap) m l) {j : Nat} {u : Value} (hu : l[j]? = some u) : ∃ b, a = some ⟨b, 0, none⟩ ∧ base ≤ b ∧ b < w.heap.size ∧ w.cell? ⟨b, j, none⟩ = some u := by
  rcases h.2 with ⟨e0, hn⟩ | ⟨g, cap', cur, e0, hb, hg, h1, h2, h3, h4⟩
  · have := h.1
    rw [hn, Nat.zero_mul] at this
    rw [List.eq_nil_of_length_eq_zero this] at hu
    cases hu
  · cases e0
    refine ⟨g, rfl, hb, lt_of_heap hg, ?_⟩
    have hj := (List.getElem?_eq_some_iff.1 hu).1
    rw [cell_of hg]
    have : (cur.toList.take (m * n))[j]? = some u := by rw [h4]; exact hu
    rw [List.getElem?_take_of_lt (by rw [← h.1]; exact hj)] at this
    simpa using this
theorem OwnO.ops {base : Nat} {w : World} {v : Value} {l : List OpM} (h : OwnO base w v l) : ∃ a cap, v = .slice a l.length cap ∧ OpsAt w a l ∧ l.length ≤ cap ∧ (a = none → l.length = 0 ∧ cap = 0) := by
  obtain ⟨a, cap, rfl, h1, h2, -⟩ := row_shape h
  refine ⟨a, cap, rfl, fun i o ho => ?_, h1, h2⟩
  obtain ⟨g0, g1, g2, g3⟩ := opc_get ho
  obtain ⟨b, rfl, -, hb, c0⟩ := row_cell h g0
  have e : ∀ {j : Nat} {u : Value}, (opc l)[j]? = some u → w.cell? ⟨b, j, none⟩ = some u := fun hu => by
    obtain ⟨b', eb, -, -, c⟩ := row_cell h hu
    cases eb
    exact c
  exact ⟨b, 0, rfl, hb, by rw [Nat.zero_add]; exact c0, by rw [Nat.zero_add]; exact e g1, by rw [Nat.zero_add]; exact e g2, by rw [Nat.zero_add]; exact e g3⟩
theorem OwnO.nil (base : Nat) (w : World) : OwnO base w (.slice none 0 0) [] := World.ownsRow_nil w base 84 4
theorem OwnI.nil (base : Nat) (w : World) : OwnI base w (.slice none 0 0) [] := World.ownsRow_nil w base 3 1
theorem OwnT.nil (base : Nat) (w : World) : OwnT base w (.slice none 0 0) [] := World.ownsRow_nil w base 51 8
/-- One operation, one number, one transaction more. -/
theorem app_op {w : World} {base g : Nat} {v : Value} {xs : List OpM} (o : OpM) (hown : OwnO base w v xs) (hg : OpsAt w (some ⟨g, 0, none⟩) [o]) (hb : xs.length ≤ 4096) (hbase : base ≤ w.heap.size) (ty : TypeId) :
    ∃ v' w', (Builtin.append_ #[49, 49] ty #[v, .slice (some ⟨g, 0, none⟩) 1 1]).run Try.prog w = .ok v' w' ∧ OwnO base w' v' (xs ++ [o]) ∧ Same (fun k => v.ownBlock = some k) w w' ∧ ∀ k, v'.ownBlock = some k → v.ownBlock = some k ∨ w.heap.size ≤ k := by
  obtain ⟨v', w', hr, r1, r2, r3, -⟩ := app_wide (P := Try.prog) (t := 49) (ty := ty) (c := 1) (m := 1) Try.underlying49 Try.infoOp rfl (by decide) hown (length_opc [o]) hg.cells (opc_one _) (by unfold maxLen; omega) (by omega) hbase
  rw [← opc_append] at r1
  exact ⟨v', w', hr, by rw [OwnO, List.length_append]; exact r1, r2, r3⟩
theorem app_int {w : World} {base g : Nat} {v : Value} {xs : List Int} {x : Int} (hown : OwnI base w v xs) (hg : w.heap[g]? = some (.cells #[.int .i64 x] 3 (0, 0))) (hb : xs.length ≤ 4096) (hbase : base ≤ w.heap.size) (ty : TypeId) :
    ∃ v' w', (Builtin.append_ #[64, 64] ty #[v, .slice (some ⟨g, 0, none⟩) 1 1]).run Try.prog w = .ok v' w' ∧ OwnI base w' v' (xs ++ [x]) ∧ Same (fun k => v.ownBlock = some k) w w' ∧ ∀ k, v'.ownBlock = some k → v.ownBlock = some k ∨ w.heap.size ≤ k := by
  obtain ⟨v', w', hr, r1, r2, r3, -⟩ := app_wide (P := Try.prog) (t := 64) (ty := ty) (c := 1) (m := 1) (a := ⟨g, 0, none⟩) (news := [.int .i64 x]) Try.underlying64 Try.infoInt rfl (by decide) hown rfl (fun j u hu => by
    rw [add_at, Nat.zero_add, cell_of hg]
    simpa using hu) (fun u hu => by rw [List.mem_singleton.1 hu]; rfl) (by unfold maxLen; omega) (by omega) hbase
  exact ⟨v', w', hr, by rw [OwnI, List.length_append, List.map_append]; exact r1, r2, r3⟩
theorem length_txc (l : List (TxM × Value)) : (txc l).length = l.length * 8 := by
  induction l with
  | nil => rfl
  | cons a r ih => simp only [txc, List.flatMap_cons, List.length_append, List.length_cons, List.length_nil] at *; omega
theorem txc_append (a b : List (TxM × Value)) : txc (a ++ b) = txc a ++ txc b := by simp [txc]
theorem app_txn {w : World} {base g : Nat} {v : Value} {xs : List (TxM × Value)} (x : TxM × Value) (hown : OwnT base w v xs) (hx : x.2.oneCell' = true) (hg : w.heap[g]? = some (.cells #[.int .i64 x.1.f0, .int .i64 x.1.f1, .int .i64 x.1.f2, .int .i64 x.1.f3, .int .i64 x.1.f4, .int .i64 x.1.f5, .int .i64 x.1.f6, x.2] 51 (0, 0))) (hb : xs.length ≤ 4096) (hbase : base ≤ w.heap.size) (ty : TypeId) :
    ∃ v' w', (Builtin.append_ #[39, 39] ty #[v, .slice (some ⟨g, 0, none⟩) 1 1]).run Try.prog w = .ok v' w' ∧ OwnT base w' v' (xs ++ [x]) ∧ Same (fun k => v.ownBlock = some k) w w' ∧ ∀ k, v'.ownBlock = some k → v.ownBlock = some k ∨ w.heap.size ≤ k := by
  obtain ⟨v', w', hr, r1, r2, r3, -⟩ := app_wide (P := Try.prog) (t := 39) (ty := ty) (c := 1) (m := 1) (a := ⟨g, 0, none⟩) (news := txc [x]) Try.underlying39 Try.infoTxn rfl (by decide) hown (length_txc [x]) (fun j u hu => by
    rw [add_at, Nat.zero_add, cell_of hg]
    simpa [txc] using hu) (fun u hu => by
      simp only [txc, List.flatMap_cons, List.flatMap_nil, List.append_nil, List.mem_cons, List.not_mem_nil, or_false] at hu
      rcases hu with rfl | rfl | rfl | rfl | rfl | rfl | rfl | rfl <;> first | rfl | exact hx) (by unfold maxLen; omega) (by omega) hbase
  rw [← txc_append] at r1
  exact ⟨v', w', hr, by rw [OwnT, List.length_append]; exact r1, r2, r3⟩

/-- Whose a block is. -/
inductive Tg where
  | out
  | mach
  | sess
  | sto
  | log
  | lops
  | tx (i : Nat)
  | ops (i : Nat)
  | tms (i : Nat)
/-- Blocks tagged anew. -/
noncomputable def retag (tg : Nat → Tg) (X : Nat → Prop) (T : Tg) : Nat → Tg := fun b => open Classical in if X b then T else tg b
theorem retag_in {tg : Nat → Tg} {X : Nat → Prop} {T : Tg} {b : Nat} (h : X b) : retag tg X T b = T := by unfold retag; rw [if_pos h]
theorem retag_no {tg : Nat → Tg} {X : Nat → Prop} {T : Tg} {b : Nat} (h : ¬ X b) : retag tg X T b = tg b := by unfold retag; rw [if_neg h]
/-- An active transaction's block. -/
def TxB (w : World) (g : Nat) (t : TxM) (ov tv : Value) : Prop := w.heap[g]? = some (.cells #[.int .i64 t.f0, .int .i64 t.f1, .int .i64 t.f2, .int .i64 t.f3, .int .i64 t.f4, .int .i64 t.f5, .int .i64 t.f6, ov, tv] 98 (0, 0))
theorem TxB.cells {w : World} {g : Nat} {t : TxM} {ov tv : Value} (h : TxB w g t ov tv) : g < w.heap.size ∧ (w.cell? ⟨g, 0, none⟩ = some (.int .i64 t.f0) ∧ w.cell? ⟨g, 1, none⟩ = some (.int .i64 t.f1) ∧ w.cell? ⟨g, 2, none⟩ = some (.int .i64 t.f2) ∧ w.cell? ⟨g, 3, none⟩ = some (.int .i64 t.f3) ∧ w.cell? ⟨g, 4, none⟩ = some (.int .i64 t.f4) ∧ w.cell? ⟨g, 5, none⟩ = some (.int .i64 t.f5) ∧ w.cell? ⟨g, 6, none⟩ = some (.int .i64 t.f6) ∧ w.cell? ⟨g, 7, none⟩ = some ov ∧ w.cell? ⟨g, 8, none⟩ = some tv) ∧ ∀ o, w.frozen? ⟨g, o, none⟩ = false :=
  ⟨lt_of_heap h, ⟨(cell_of h 0).trans rfl, (cell_of h 1).trans rfl, (cell_of h 2).trans rfl, (cell_of h 3).trans rfl, (cell_of h 4).trans rfl, (cell_of h 5).trans rfl, (cell_of h 6).trans rfl, (cell_of h 7).trans rfl, (cell_of h 8).trans rfl⟩, frozen_of h⟩
/-- A session's active transaction in memory. -/
structure TxAt (tg : Nat → Tg) (w : World) (i g : Nat) (a : Ac) (ov tv : Value) : Prop where
  obj : TxB w g a.t ov tv
  tgx : tg g = .tx i
  ops : OwnO 0 w ov a.t.ops
  tp : ∀ b, ov.ownBlock = some b → tg b = .ops i
  tms : OwnI 0 w tv a.ts
  tt : ∀ b, tv.ownBlock = some b → tg b = .tms i
theorem TxAt.kept {tg : Nat → Tg} {w w' : World} {i g : Nat} {a : Ac} {ov tv : Value} (h : TxAt tg w i g a ov tv) {S : Nat → Prop} (hs : Same S w w') (hd : ∀ b, (tg b = .tx i ∨ tg b = .ops i ∨ tg b = .tms i) → ¬ S b) : TxAt tg w' i g a ov tv :=
  ⟨(hs.block g (lt_of_heap h.obj) (hd g (.inl h.tgx))).trans h.obj, h.tgx, row_kept h.ops hs fun b hb => hd b (.inr (.inl (h.tp b hb))), h.tp, row_kept h.tms hs fun b hb => hd b (.inr (.inr (h.tt b hb))), h.tt⟩
theorem TxAt.re {tg tg' : Nat → Tg} {w : World} {i g : Nat} {a : Ac} {ov tv : Value} (h : TxAt tg w i g a ov tv) (ht : ∀ b, (tg b = .tx i ∨ tg b = .ops i ∨ tg b = .tms i) → tg' b = tg b) : TxAt tg' w i g a ov tv :=
  ⟨h.obj, (ht g (.inl h.tgx)).trans h.tgx, h.ops, fun b hb => (ht b (.inr (.inl (h.tp b hb)))).trans (h.tp b hb), h.tms, fun b hb => (ht b (.inr (.inr (h.tt b hb)))).trans (h.tt b hb)⟩
/-- The sessions' cells. -/
def SesA (arr : Array Value) (M : Mm) (P : Nat → Option Nat) : Prop := ∀ i, i < M.ses.length → arr[i * 2]? = some (.int .i64 (M.at i).begun) ∧ arr[i * 2 + 1]? = some (.pointer ((P i).map fun g => ⟨g, 0, none⟩))
/-- The machine in memory. -/
structure Mi (tg : Nat → Tg) (w : World) (mb sb vb : Nat) (lv : Value) (P : Nat → Option Nat) (L : List (TxM × Value)) (M : Mm) : Prop where
  obj : w.heap[mb]? = some (.cells #[.int .i64 M.flaw, .int .i64 M.clock, .int .i64 M.begun, .slice (some ⟨sb, 0, none⟩) M.ses.length M.ses.length, .pointer (some ⟨vb, 0, none⟩), lv] 62 (0, 0))
  tm : tg mb = .mach
  ses : ∃ arr, w.heap[sb]? = some (.cells arr 71 (0, 0)) ∧ SesA arr M P
  ts : tg sb = .sess
  act : ∀ i a, (M.at i).act = some a → ∃ g ov tv, P i = some g ∧ TxAt tg w i g a ov tv
  non : ∀ i, (M.at i).act = none → P i = none
  st : St (fun b => tg b = .sto) w vb M.A
  lg : OwnT 0 w lv L
  tl : ∀ b, lv.ownBlock = some b → tg b = .log
  lo : ∀ x ∈ L, OwnO 0 w x.2 x.1.ops ∧ ∀ b, x.2.ownBlock = some b → tg b = .lops
  ll : L.map (·.1) = M.log
  lt : ∀ b, tg b ≠ .out → b < w.heap.size
theorem Mi.kept {tg : Nat → Tg} {w w' : World} {mb sb vb : Nat} {lv : Value} {P : Nat → Option Nat} {L : List (TxM × Value)} {M : Mm} (h : Mi tg w mb sb vb lv P L M) {S : Nat → Prop} (hs : Same S w w') (hd : ∀ b, tg b ≠ .out → ¬ S b) : Mi tg w' mb sb vb lv P L M where
  obj := (hs.block mb (lt_of_heap h.obj) (hd mb (by rw [h.tm]; exact fun e => by cases e))).trans h.obj
  tm := h.tm
  ses := by
    obtain ⟨arr, h1, h2⟩ := h.ses
    exact ⟨arr, (hs.block sb (lt_of_heap h1) (hd sb (by rw [h.ts]; exact fun e => by cases e))).trans h1, h2⟩
  ts := h.ts
  act := fun i a ha => by
    obtain ⟨g, ov, tv, h1, h2⟩ := h.act i a ha
    exact ⟨g, ov, tv, h1, h2.kept hs fun b hb => hd b (by rcases hb with e | e | e <;> rw [e] <;> exact fun e => by cases e)⟩
  non := h.non
  st := h.st.off hs fun b hb => hd b (by rw [hb]; exact fun e => by cases e)
  lg := row_kept h.lg hs fun b hb => hd b (by rw [h.tl b hb]; exact fun e => by cases e)
  tl := h.tl
  lo := fun x hx => ⟨row_kept (h.lo x hx).1 hs fun b hb => hd b (by rw [(h.lo x hx).2 b hb]; exact fun e => by cases e), (h.lo x hx).2⟩
  ll := h.ll
  lt := fun b hb => Nat.lt_of_lt_of_le (h.lt b hb) hs.size
theorem Mi.on {tg : Nat → Tg} {w w' : World} {mb sb vb : Nat} {lv : Value} {P : Nat → Option Nat} {L : List (TxM × Value)} {M : Mm} (h : Mi tg w mb sb vb lv P L M) (hs : Kept w w') : Mi tg w' mb sb vb lv P L M := h.kept hs fun _ _ e => e
theorem Mi.cells {tg : Nat → Tg} {w : World} {mb sb vb : Nat} {lv : Value} {P : Nat → Option Nat} {L : List (TxM × Value)} {M : Mm} (h : Mi tg w mb sb vb lv P L M) : mb < w.heap.size ∧ (w.cell? ⟨mb, 0, none⟩ = some (.int .i64 M.flaw) ∧ w.cell? ⟨mb, 1, none⟩ = some (.int .i64 M.clock) ∧ w.cell? ⟨mb, 2, none⟩ = some (.int .i64 M.begun) ∧ w.cell? ⟨mb, 3, none⟩ = some (.slice (some ⟨sb, 0, none⟩) M.ses.length M.ses.length) ∧ w.cell? ⟨mb, 4, none⟩ = some (.pointer (some ⟨vb, 0, none⟩)) ∧ w.cell? ⟨mb, 5, none⟩ = some lv) ∧ ∀ o, w.frozen? ⟨mb, o, none⟩ = false :=
  ⟨lt_of_heap h.obj, ⟨(cell_of h.obj 0).trans rfl, (cell_of h.obj 1).trans rfl, (cell_of h.obj 2).trans rfl, (cell_of h.obj 3).trans rfl, (cell_of h.obj 4).trans rfl, (cell_of h.obj 5).trans rfl⟩, frozen_of h.obj⟩
theorem Mi.sess {tg : Nat → Tg} {w : World} {mb sb vb : Nat} {lv : Value} {P : Nat → Option Nat} {L : List (TxM × Value)} {M : Mm} (h : Mi tg w mb sb vb lv P L M) {i : Nat} (hi : i < M.ses.length) : sb < w.heap.size ∧ w.cell? ⟨sb, i * 2, none⟩ = some (.int .i64 (M.at i).begun) ∧ w.cell? ⟨sb, i * 2 + 1, none⟩ = some (.pointer ((P i).map fun g => ⟨g, 0, none⟩)) ∧ ∀ o, w.frozen? ⟨sb, o, none⟩ = false := by
  obtain ⟨arr, h1, h2⟩ := h.ses
  exact ⟨lt_of_heap h1, (cell_of h1 _).trans (h2 i hi).1, (cell_of h1 _).trans (h2 i hi).2, frozen_of h1⟩
/-- The machine in memory, its blocks F; what every step keeps. -/
def Mk (F : Nat → Prop) (w : World) (mb : Nat) (M : Mm) : Prop := Inv M ∧ ∃ tg sb vb lv P L, Mi tg w mb sb vb lv P L M ∧ (∀ b, F b ↔ tg b ≠ .out)
theorem Mk.off {F : Nat → Prop} {w w' : World} {mb : Nat} {M : Mm} (h : Mk F w mb M) {S : Nat → Prop} (hs : Same S w w') (hd : ∀ b, F b → ¬ S b) : Mk F w' mb M := by
  obtain ⟨i, tg, sb, vb, lv, P, L, h1, h2⟩ := h
  exact ⟨i, tg, sb, vb, lv, P, L, h1.kept hs fun b hb => hd b ((h2 b).2 hb), h2⟩
theorem Mk.on {F : Nat → Prop} {w w' : World} {mb : Nat} {M : Mm} (h : Mk F w mb M) (hs : Kept w w') : Mk F w' mb M := h.off hs fun _ _ e => e
theorem Mk.lt {F : Nat → Prop} {w : World} {mb : Nat} {M : Mm} (h : Mk F w mb M) : ∀ b, F b → b < w.heap.size := by
  obtain ⟨i, tg, sb, vb, lv, P, L, h1, h2⟩ := h
  exact fun b hb => h1.lt b ((h2 b).1 hb)
/-- A step of the machine. -/
def StpM (F : Nat → Prop) (w : World) (mb : Nat) (M' : Mm) (w' : World) : Prop := ∃ F', Mk F' w' mb M' ∧ (∀ b, F' b → F b ∨ w.heap.size ≤ b) ∧ Same F w w'
end Go.Proofs.Ytmghmacgljihcaa
