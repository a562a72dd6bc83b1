/- What is proved: lists of operations, numbers and transactions of one's own in memory; no condition. -/
import Derived.Test.YtbjmdpfoeeadeaaMPla
import Derived.Test.YtbjmdpfoeeadeaaJWide
import Derived.BigQuiet
import Derived.BigRegion
import Derived.Carry
import Derived.Deep.RegionHeld3
import Derived.Deep.RegionLaw
import Derived.Deep.RegionWith
import Derived.Deep.QuietTactic
import Derived.Deep.CutRange
import Derived.Deep.DeepCutAuto
import Derived.StillTailTactics
namespace Go.Proofs.Ytbjmdpfoeeadeaa.Ch.Mc
open Go.RowKit

/-- The cells of operations. -/
def opc (l : List OpM) : List Value := l.flatMap fun o => [.int .i64 o.kind, .string o.key, .bool o.found, .string o.value]
theorem length_opc (l : List OpM) : (opc l).length = l.length * 4 := by
  induction l with
  | nil => rfl
  | cons a r ih => simp only [opc, List.flatMap_cons, List.length_append, List.length_cons, List.length_nil] at *; omega
theorem opc_cons (o : OpM) (r : List OpM) : opc (o :: r) = [.int .i64 o.kind, .string o.key, .bool o.found, .string o.value] ++ opc r := rfl
theorem opc_append (a b : List OpM) : opc (a ++ b) = opc a ++ opc b := by simp [opc]
theorem opc_get {l : List OpM} {i : Nat} {o : OpM} (h : l[i]? = some o) : (opc l)[i * 4]? = some (.int .i64 o.kind) ∧ (opc l)[i * 4 + 1]? = some (.string o.key) ∧ (opc l)[i * 4 + 2]? = some (.bool o.found) ∧ (opc l)[i * 4 + 3]? = some (.string o.value) := by
  induction l generalizing i with
  | nil => simp at h
  | cons a r ih =>
    cases i with
    | zero =>
      simp only [List.getElem?_cons_zero, Option.some.injEq] at h
      subst h
      simp [opc]
    | succ i =>
      simp only [List.getElem?_cons_succ] at h
      obtain ⟨h0, h1, h2, h3⟩ := ih h
      have e : ∀ j, (opc (a :: r))[(i + 1) * 4 + j]? = (opc r)[i * 4 + j]? := fun j => by
        rw [opc_cons, List.getElem?_append_right (by simp; omega)]
        congr 1
        simp; omega
      exact ⟨(e 0).trans h0, (e 1).trans h1, (e 2).trans h2, (e 3).trans h3⟩
theorem opc_one (l : List OpM) : ∀ v ∈ opc l, v.oneCell' = true := by
  intro v hv
  obtain ⟨o, _, hf⟩ := List.mem_flatMap.1 hv
  simp only [List.mem_cons, List.not_mem_nil, or_false] at hf
  rcases hf with rfl | rfl | rfl | rfl <;> rfl
theorem Try.infoOp : (Try.prog.info? 79).map (fun i => (i.zero, i.size, i.bytes)) = some (some (.agg #[.int .i64 0, .string .empty, .bool false, .string .empty]), 4, 48) := by kernel_rfl
theorem Try.infoInt : (Try.prog.info? 3).map (fun i => (i.zero, i.size, i.bytes)) = some (some (.int .i64 0), 1, 8) := by kernel_rfl
theorem Try.infoTxn : (Try.prog.info? 24).map (fun i => (i.zero, i.size, i.bytes)) = some (some (.agg #[.int .i64 0, .int .i64 0, .int .i64 0, .int .i64 0, .int .i64 0, .int .i64 0, .int .i64 0, .slice none 0 0]), 8, 80) := by kernel_rfl
/-- The operations l lie in w from address a on. -/
def OpsAt (w : World) (a : Option Addr) (l : List OpM) : Prop :=
  ∀ i o, l[i]? = some o → ∃ b off, a = some ⟨b, off, none⟩ ∧ b < w.heap.size ∧ w.cell? ⟨b, off + i * 4, none⟩ = some (.int .i64 o.kind) ∧ w.cell? ⟨b, off + i * 4 + 1, none⟩ = some (.string o.key) ∧
    w.cell? ⟨b, off + i * 4 + 2, none⟩ = some (.bool o.found) ∧ w.cell? ⟨b, off + i * 4 + 3, none⟩ = some (.string o.value)
theorem OpsAt.kept {S : Nat → Prop} {w w' : World} {a : Option Addr} {l : List OpM} (h : OpsAt w a l) (hs : Same S w w') (hd : ∀ k, InB a l.length k → ¬ S k) : OpsAt w' a l := fun i x hx => by
  obtain ⟨b, off, rfl, hb, c0, c1, c2, c3⟩ := h i x hx
  have hk := hd b ⟨pos_of_get hx, off, rfl⟩
  exact ⟨b, off, rfl, Nat.lt_of_lt_of_le hb hs.size, (hs.cell (p := ⟨b, _, none⟩) hb hk).trans c0, (hs.cell (p := ⟨b, _, none⟩) hb hk).trans c1, (hs.cell (p := ⟨b, _, none⟩) hb hk).trans c2, (hs.cell (p := ⟨b, _, none⟩) hb hk).trans c3⟩
theorem OpsAt.on {w w' : World} {a : Option Addr} {l : List OpM} (h : OpsAt w a l) (hs : Kept w w') : OpsAt w' a l := h.kept hs fun _ _ h => h
theorem add_at (b off j : Nat) : (Addr.mk b off none).add j = ⟨b, off + j, none⟩ := by simp [Addr.add]
theorem OpsAt.cells {w : World} {ad : Addr} {l : List OpM} (h : OpsAt w (some ad) l) : ∀ j u, (opc l)[j]? = some u → w.cell? (ad.add j) = some u := fun j u hu => by
  have hj : j < l.length * 4 := by rw [← length_opc]; exact (List.getElem?_eq_some_iff.1 hu).1
  have hi : j / 4 < l.length := by omega
  obtain ⟨b, off, e, hb, c0, c1, c2, c3⟩ := h (j / 4) _ (List.getElem?_eq_getElem hi)
  obtain ⟨g0, g1, g2, g3⟩ := opc_get (List.getElem?_eq_getElem hi)
  cases e
  have hm : j % 4 = 0 ∨ j % 4 = 1 ∨ j % 4 = 2 ∨ j % 4 = 3 := by omega
  have e4 : j = j / 4 * 4 + j % 4 := by omega
  rcases hm with h | h | h | h <;> rw [h] at e4
  · rw [Nat.add_zero] at e4
    rw [e4, g0] at hu; cases hu
    rw [add_at]
    rw [show off + j = off + j / 4 * 4 by omega]; exact c0
  · rw [e4, g1] at hu; cases hu
    rw [add_at]
    rw [show off + j = off + j / 4 * 4 + 1 by omega]; exact c1
  · rw [e4, g2] at hu; cases hu
    rw [add_at]
    rw [show off + j = off + j / 4 * 4 + 2 by omega]; exact c2
  · rw [e4, g3] at hu; cases hu
    rw [add_at]
    rw [show off + j = off + j / 4 * 4 + 3 by omega]; exact c3
theorem op_new (w : World) (o : OpM) : OpsAt (w.alloc (.cells #[.int .i64 o.kind, .string o.key, .bool o.found, .string o.value] 79 (0, 0))) (some ⟨w.heap.size, 0, none⟩) [o] := fun i y hy => by
  cases i with
  | zero =>
    simp only [List.getElem?_cons_zero, Option.some.injEq] at hy
    subst hy
    have h := heap_new w (.cells #[.int .i64 o.kind, .string o.key, .bool o.found, .string o.value] 79 (0, 0))
    exact ⟨w.heap.size, 0, rfl, by simp [World.size_alloc], (cell_of h _).trans rfl, (cell_of h _).trans rfl, (cell_of h _).trans rfl, (cell_of h _).trans rfl⟩
  | succ i => simp at hy
/-- The value v is a row of one's own: of operations; of numbers; of transactions. -/
def OwnO (base : Nat) (w : World) (v : Value) (l : List OpM) : Prop := w.ownsRow base 79 4 v l.length (opc l)
def OwnI (base : Nat) (w : World) (v : Value) (l : List Int) : Prop := w.ownsRow base 3 1 v l.length (l.map (Value.int .i64))
def txc (l : List (TxM × Value)) : List Value := l.flatMap fun x => [.int .i64 x.1.f0, .int .i64 x.1.f1, .int .i64 x.1.f2, .int .i64 x.1.f3, .int .i64 x.1.f4, .int .i64 x.1.f5, .int .i64 x.1.f6, x.2]
def OwnT (base : Nat) (w : World) (v : Value) (l : List (TxM × Value)) : Prop := w.ownsRow base 24 8 v l.length (txc l)
theorem row_kept {S : Nat → Prop} {base : Nat} {w w' : World} {e : TypeId} {n m : Nat} {v : Value} {l : List Value} (h : w.ownsRow base e n v m l) (hs : Same S w w') (hn : ∀ k, v.ownBlock = some k → ¬ S k) : w'.ownsRow base e n v m l := by
  rcases h.2 with ⟨rfl, h0⟩ | ⟨g, cap, cur, rfl, hb, hg, hr⟩
  · exact ⟨h.1, .inl ⟨rfl, h0⟩⟩
  · exact ⟨h.1, .inr ⟨g, cap, cur, rfl, hb, (hs.block _ (lt_of_heap hg) (hn g rfl)).trans hg, hr⟩⟩
theorem row_lower {base base' : Nat} {w : World} {e : TypeId} {n m : Nat} {v : Value} {l : List Value} (h : w.ownsRow base e n v m l) (hb : base' ≤ base) : w.ownsRow base' e n v m l := by
  rcases h.2 with ⟨rfl, h0⟩ | ⟨g, cap, cur, rfl, hb', hr⟩
  · exact ⟨h.1, .inl ⟨rfl, h0⟩⟩
  · exact ⟨h.1, .inr ⟨g, cap, cur, rfl, Nat.le_trans hb hb', hr⟩⟩
theorem row_block {base : Nat} {w : World} {e : TypeId} {n m : Nat} {v : Value} {l : List Value} (h : w.ownsRow base e n v m l) {k : Nat} (hk : v.ownBlock = some k) : base ≤ k ∧ ∃ cur, w.heap[k]? = some (.cells cur e (0, 0)) := by
  rcases h.2 with ⟨rfl, h0⟩ | ⟨g, cap, cur, rfl, hb, hg, hr⟩
  · cases hk
  · cases hk
    exact ⟨hb, _, hg⟩
theorem row_shape {base : Nat} {w : World} {e : TypeId} {n m : Nat} {v : Value} {l : List Value} (h : w.ownsRow base e n v m l) : ∃ a cap, v = .slice a m cap ∧ m ≤ cap ∧ (a = none → m = 0 ∧ cap = 0) ∧ (∀ ad, a = some ad → ∃ g, ad = ⟨g, 0, none⟩ ∧ base ≤ g ∧ g < w.heap.size) := by
  rcases h.2 with ⟨rfl, hn⟩ | ⟨g, cap, cur, rfl, hb, hg, h1, h2, h3, h4⟩
  · subst hn
    exact ⟨none, 0, rfl, Nat.le_refl _, fun _ => ⟨rfl, rfl⟩, fun _ e => (by cases e)⟩
  · exact ⟨_, cap, rfl, h1, fun e => (by cases e), fun ad e => (by cases e; exact ⟨g, rfl, hb, lt_of_heap hg⟩)⟩
theorem row_cell {base : Nat} {w : World} {e : TypeId} {n m : Nat} {a : Option Addr} {m' cap : Nat} {l : List Value} (h : w.ownsRow base e n (.slice a m' cap) m l) {j : Nat} {u : Value} (hu : l[j]? = some u) : ∃ b, a = some ⟨b, 0, none⟩ ∧ base ≤ b ∧ b < w.heap.size ∧ w.cell? ⟨b, j, none⟩ = some u := by
  rcases h.2 with ⟨e0, hn⟩ | ⟨g, cap', cur, e0, hb, hg, h1, h2, h3, h4⟩
  · have := h.1
    rw [hn, Nat.zero_mul] at this
    rw [List.eq_nil_of_length_eq_zero this] at hu
    cases hu
  · cases e0
    refine ⟨g, rfl, hb, lt_of_heap hg, ?_⟩
    have hj := (List.getElem?_eq_some_iff.1 hu).1
    rw [cell_of hg]
    have : (cur.toList.take (m * n))[j]? = some u := by rw [h4]; exact hu
    rw [List.getElem?_take_of_lt (by rw [← h.1]; exact hj)] at this
    simpa using this
theorem OwnO.ops {base : Nat} {w : World} {v : Value} {l : List OpM} (h : OwnO base w v l) : ∃ a cap, v = .slice a l.length cap ∧ OpsAt w a l ∧ l.length ≤ cap ∧ (a = none → l.length = 0 ∧ cap = 0) := by
  obtain ⟨a, cap, rfl, h1, h2, -⟩ := row_shape h
  refine ⟨a, cap, rfl, fun i o ho => ?_, h1, h2⟩
  obtain ⟨g0, g1, g2, g3⟩ := opc_get ho
  obtain ⟨b, rfl, -, hb, c0⟩ := row_cell h g0
  have e : ∀ {j : Nat} {u : Value}, (opc l)[j]? = some u → w.cell? ⟨b, j, none⟩ = some u := fun hu => by
    obtain ⟨b', eb, -, -, c⟩ := row_cell h hu
    cases eb
    exact c
  exact ⟨b, 0, rfl, hb, by rw [Nat.zero_add]; exact c0, by rw [Nat.zero_add]; exact e g1, by rw [Nat.zero_add]; exact e g2, by rw [Nat.zero_add]; exact e g3⟩
theorem OwnO.nil (base : Nat) (w : World) : OwnO base w (.slice none 0 0) [] := World.ownsRow_nil w base 79 4
theorem OwnI.nil (base : Nat) (w : World) : OwnI base w (.slice none 0 0) [] := World.ownsRow_nil w base 3 1
theorem OwnT.nil (base : Nat) (w : World) : OwnT base w (.slice none 0 0) [] := World.ownsRow_nil w base 24 8
/-- One operation, one number, one transaction more. -/
theorem app_op {w : World} {base g : Nat} {v : Value} {xs : List OpM} (o : OpM) (hown : OwnO base w v xs) (hg : OpsAt w (some ⟨g, 0, none⟩) [o]) (hb : xs.length ≤ 4096) (hbase : base ≤ w.heap.size) (ty : TypeId) :
    ∃ v' w', (Builtin.append_ #[22, 22] ty #[v, .slice (some ⟨g, 0, none⟩) 1 1]).run Try.prog w = .ok v' w' ∧ OwnO base w' v' (xs ++ [o]) ∧ Same (fun k => v.ownBlock = some k) w w' ∧ ∀ k, v'.ownBlock = some k → v.ownBlock = some k ∨ w.heap.size ≤ k := by
  obtain ⟨v', w', hr, r1, r2, r3, -⟩ := app_wide (P := Try.prog) (t := 22) (ty := ty) (c := 1) (m := 1) Try.underlying22 Try.infoOp rfl (by decide) hown (length_opc [o]) hg.cells (opc_one _) (by unfold maxLen; omega) (by omega) hbase
  rw [← opc_append] at r1
  exact ⟨v', w', hr, by rw [OwnO, List.length_append]; exact r1, r2, r3⟩
theorem app_int {w : World} {base g : Nat} {v : Value} {xs : List Int} {x : Int} (hown : OwnI base w v xs) (hg : w.heap[g]? = some (.cells #[.int .i64 x] 3 (0, 0))) (hb : xs.length ≤ 4096) (hbase : base ≤ w.heap.size) (ty : TypeId) :
    ∃ v' w', (Builtin.append_ #[107, 107] ty #[v, .slice (some ⟨g, 0, none⟩) 1 1]).run Try.prog w = .ok v' w' ∧ OwnI base w' v' (xs ++ [x]) ∧ Same (fun k => v.ownBlock = some k) w w' ∧ ∀ k, v'.ownBlock = some k → v.ownBlock = some k ∨ w.heap.size ≤ k := by
  obtain ⟨v', w', hr, r1, r2, r3, -⟩ := app_wide (P := Try.prog) (t := 107) (ty := ty) (c := 1) (m := 1) (a := ⟨g, 0, none⟩) (news := [.int .i64 x]) Try.underlying107 Try.infoInt rfl (by decide) hown rfl (fun j u hu => by
    rw [add_at, Nat.zero_add, cell_of hg]
    simpa using hu) (fun u hu => by rw [List.mem_singleton.1 hu]; rfl) (by unfold maxLen; omega) (by omega) hbase
  exact ⟨v', w', hr, by rw [OwnI, List.length_append, List.map_append]; exact r1, r2, r3⟩
theorem length_txc (l : List (TxM × Value)) : (txc l).length = l.length * 8 := by
  induction l with
  | nil => rfl
  | cons a r ih => simp only [txc, List.flatMap_cons, List.length_append, List.length_cons, List.length_nil] at *; omega
theorem txc_append (a b : List (TxM × Value)) : txc (a ++ b) = txc a ++ txc b := by simp [txc]
theorem app_txn {w : World} {base g : Nat} {v : Value} {xs : List (TxM × Value)} (x : TxM × Value) (hown : OwnT base w v xs) (hx : x.2.oneCell' = true) (hg : w.heap[g]? = some (.cells #[.int .i64 x.1.f0, .int .i64 x.1.f1, .int .i64 x.1.f2, .int .i64 x.1.f3, .int .i64 x.1.f4, .int .i64 x.1.f5, .int .i64 x.1.f6, x.2] 24 (0, 0))) (hb : xs.length ≤ 4096) (hbase : base ≤ w.heap.size) (ty : TypeId) :
    ∃ v' w', (Builtin.append_ #[59, 59] ty #[v, .slice (some ⟨g, 0, none⟩) 1 1]).run Try.prog w = .ok v' w' ∧ OwnT base w' v' (xs ++ [x]) ∧ Same (fun k => v.ownBlock = some k) w w' ∧ ∀ k, v'.ownBlock = some k → v.ownBlock = some k ∨ w.heap.size ≤ k := by
  obtain ⟨v', w', hr, r1, r2, r3, -⟩ := app_wide (P := Try.prog) (t := 59) (ty := ty) (c := 1) (m := 1) (a := ⟨g, 0, none⟩) (news := txc [x]) Try.underlying59 Try.infoTxn rfl (by decide) hown (length_txc [x]) (fun j u hu => by
    rw [add_at, Nat.zero_add, cell_of hg]
    simpa [txc] using hu) (fun u hu => by
      simp only [txc, List.flatMap_cons, List.flatMap_nil, List.append_nil, List.mem_cons, List.not_mem_nil, or_false] at hu
      rcases hu with rfl | rfl | rfl | rfl | rfl | rfl | rfl | rfl <;> first | rfl | exact hx) (by unfold maxLen; omega) (by omega) hbase
  rw [← txc_append] at r1
  exact ⟨v', w', hr, by rw [OwnT, List.length_append]; exact r1, r2, r3⟩

end Go.Proofs.Ytbjmdpfoeeadeaa.Ch.Mc

namespace Go.Proofs.Ytbjmdpfoeeadeaa.Ch.Mc
open Go.RowKit

theorem txc_one {l : List (TxM × Value)} (h : ∀ x ∈ l, x.2.oneCell' = true) : ∀ v ∈ txc l, v.oneCell' = true := by
  intro v hv
  obtain ⟨x, hx, hf⟩ := List.mem_flatMap.1 hv
  simp only [List.mem_cons, List.not_mem_nil, or_false] at hf
  rcases hf with rfl | rfl | rfl | rfl | rfl | rfl | rfl | rfl <;> first | rfl | exact h x hx
theorem own_one {w : World} {b : Nat} {v : Value} {l : List OpM} (h : OwnO b w v l) : v.oneCell' = true := by
  obtain ⟨a, c, rfl, -⟩ := OwnO.ops h
  rfl
theorem cells_of_row {w : World} {base : Nat} {e : TypeId} {n m : Nat} {ad : Addr} {m' cap : Nat} {l : List Value} (h : w.ownsRow base e n (.slice (some ad) m' cap) m l) : ∀ j u, l[j]? = some u → w.cell? (ad.add j) = some u := fun j u hu => by
  obtain ⟨b, eb, -, -, hc⟩ := row_cell h hu
  cases eb
  rw [add_at, Nat.zero_add]
  exact hc
theorem txc_get {l : List (TxM × Value)} {i : Nat} {x : TxM × Value} (h : l[i]? = some x) (j : Nat) (hj : j < 8) : (txc l)[i * 8 + j]? = [Value.int .i64 x.1.f0, .int .i64 x.1.f1, .int .i64 x.1.f2, .int .i64 x.1.f3, .int .i64 x.1.f4, .int .i64 x.1.f5, .int .i64 x.1.f6, x.2][j]? := by
  induction l generalizing i with
  | nil => simp at h
  | cons a r ih =>
    have e : txc (a :: r) = [Value.int .i64 a.1.f0, .int .i64 a.1.f1, .int .i64 a.1.f2, .int .i64 a.1.f3, .int .i64 a.1.f4, .int .i64 a.1.f5, .int .i64 a.1.f6, a.2] ++ txc r := rfl
    cases i with
    | zero =>
      simp only [List.getElem?_cons_zero, Option.some.injEq] at h
      subst h
      rw [e, List.getElem?_append_left (by simp; omega)]
      simp
    | succ i =>
      simp only [List.getElem?_cons_succ] at h
      rw [e, List.getElem?_append_right (by simp; omega), ← ih h]
      congr 1
      simp; omega
theorem txc_set (l : List (TxM × Value)) (i : Nat) (t : TxM) (o v : Value) (h : l[i]? = some (t, o)) : (txc l).set (i * 8 + 7) v = txc (l.set i (t, v)) := by
  induction l generalizing i with
  | nil => simp at h
  | cons a r ih =>
    cases i with
    | zero =>
      simp only [List.getElem?_cons_zero, Option.some.injEq] at h
      subst h
      simp [txc]
    | succ i =>
      have := ih i (by simpa using h)
      rw [List.set_cons_succ]
      have e : ∀ (a : TxM × Value) r, txc (a :: r) = [Value.int .i64 a.1.f0, .int .i64 a.1.f1, .int .i64 a.1.f2, .int .i64 a.1.f3, .int .i64 a.1.f4, .int .i64 a.1.f5, .int .i64 a.1.f6, a.2] ++ txc r := fun _ _ => rfl
      rw [e, e, ← this, show (i + 1) * 8 + 7 = (i * 8 + 7) + 1 + 1 + 1 + 1 + 1 + 1 + 1 + 1 by omega]
      rfl
theorem OwnT.put {base : Nat} {w : World} {v : Value} {l : List (TxM × Value)} (h : OwnT base w v l) {g : Nat} (hg : v.ownBlock = some g) {i : Nat} {t : TxM} {o : Value} (hi : l[i]? = some (t, o)) (u : Value) : OwnT base (w.setCell ⟨g, i * 8 + 7, none⟩ u) v (l.set i (t, u)) := by
  have hil := (List.getElem?_eq_some_iff.1 hi).1
  rcases h.2 with ⟨rfl, h0⟩ | ⟨g', cap, cur, rfl, hb, hgg, h1, h2, h3, h4⟩
  · cases hg
  · cases hg
    refine ⟨by rw [length_txc], .inr ⟨g', cap, _, by simp, hb, setCell_at hgg _ _, by simpa using h1, h2, by simpa using h3, ?_⟩⟩
    rw [← txc_set l i t o u hi, ← h4]
    simp only [Array.toList_setIfInBounds, List.length_set]
    rw [List.take_set]
theorem set_fst {l : List (TxM × Value)} {i : Nat} {t : TxM} {o : Value} (h : l[i]? = some (t, o)) (u : Value) : (l.set i (t, u)).map (·.1) = l.map (·.1) := by
  rw [List.map_set]
  apply List.ext_getElem?
  intro j
  rw [List.getElem?_set]
  split
  · rename_i e
    subst e
    rw [List.getElem?_map, h]
    simp [(List.getElem?_eq_some_iff.1 h).1]
  · rfl
theorem put4 {W : World} {g : Nat} {p q r s : Value} {ty : TypeId} (h : W.heap[g]? = some (.cells #[p, q, r, s] ty (0, 0))) (a b c d : Value) :
    ((((W.setCell ⟨g, 0, none⟩ a).setCell ⟨g, 1, none⟩ b).setCell ⟨g, 2, none⟩ c).setCell ⟨g, 3, none⟩ d).heap[g]? = some (.cells #[a, b, c, d] ty (0, 0)) := by
  have h4 := setCell_at (setCell_at (setCell_at (setCell_at h 0 a) 1 b) 2 c) 3 d
  simpa using h4
theorem put4_same {S : Nat → Prop} {w W : World} (k : Same S w W) {g : Nat} (hg : w.heap.size ≤ g ∨ S g) (a b c d : Value) : Same S w ((((W.setCell ⟨g, 0, none⟩ a).setCell ⟨g, 1, none⟩ b).setCell ⟨g, 2, none⟩ c).setCell ⟨g, 3, none⟩ d) :=
  Same.setCell (Same.setCell (Same.setCell (Same.setCell k ⟨g, 0, none⟩ hg a) ⟨g, 1, none⟩ hg b) ⟨g, 2, none⟩ hg c) ⟨g, 3, none⟩ hg d
theorem heap_set {w : World} {p : Addr} {u : Value} {b : Nat} (h : b ≠ p.block) : (w.setCell p u).heap[b]? = w.heap[b]? := Below.heap_setCell _ _ _ _ h
theorem op_at {w : World} {g : Nat} {o : OpM} (h : w.heap[g]? = some (.cells #[.int .i64 o.kind, .string o.key, .bool o.found, .string o.value] 79 (0, 0))) : OpsAt w (some ⟨g, 0, none⟩) [o] := fun i y hy => by
  cases i with
  | zero =>
    simp only [List.getElem?_cons_zero, Option.some.injEq] at hy
    subst hy
    exact ⟨g, 0, rfl, lt_of_heap h, (cell_of h _).trans rfl, (cell_of h _).trans rfl, (cell_of h _).trans rfl, (cell_of h _).trans rfl⟩
  | succ i => simp at hy
theorem types_ne {w : World} {b : Nat} {c c' : Array Value} {t t' : TypeId} (h : w.heap[b]? = some (.cells c t (0, 0))) (h' : w.heap[b]? = some (.cells c' t' (0, 0))) (hn : t ≠ t') : False := by
  rw [h] at h'
  cases h'
  exact hn rfl
theorem OwnO.on {base : Nat} {w w' : World} {v : Value} {l : List OpM} (h : OwnO base w v l) (k : Kept w w') : OwnO base w' v l := row_kept h k fun _ _ e => e
end Go.Proofs.Ytbjmdpfoeeadeaa.Ch.Mc

namespace Go.Proofs.Ytbjmdpfoeeadeaa.Ch.Mc
open Go.RowKit

/-- The transactions L lie in w from address a on. -/
def TxnsAt (w : World) (a : Option Addr) (L : List TxM) : Prop :=
  ∀ i t, L[i]? = some t → ∃ b off ua uc, a = some ⟨b, off, none⟩ ∧ b < w.heap.size ∧ w.cell? ⟨b, off + i * 8, none⟩ = some (.int .i64 t.f0) ∧ w.cell? ⟨b, off + i * 8 + 1, none⟩ = some (.int .i64 t.f1) ∧ w.cell? ⟨b, off + i * 8 + 2, none⟩ = some (.int .i64 t.f2) ∧ w.cell? ⟨b, off + i * 8 + 3, none⟩ = some (.int .i64 t.f3) ∧ w.cell? ⟨b, off + i * 8 + 4, none⟩ = some (.int .i64 t.f4) ∧ w.cell? ⟨b, off + i * 8 + 5, none⟩ = some (.int .i64 t.f5) ∧ w.cell? ⟨b, off + i * 8 + 6, none⟩ = some (.int .i64 t.f6) ∧ w.cell? ⟨b, off + i * 8 + 7, none⟩ = some (.slice ua t.ops.length uc) ∧ OpsAt w ua t.ops
theorem TxnsAt.on {w w' : World} {a : Option Addr} {L : List TxM} (h : TxnsAt w a L) (k : Kept w w') : TxnsAt w' a L := fun i t ht => by
  obtain ⟨b, off, ua, uc, rfl, hb, c0, c1, c2, c3, c4, c5, c6, c7, ho⟩ := h i t ht
  have e : ∀ o, w'.cell? ⟨b, o, none⟩ = w.cell? ⟨b, o, none⟩ := fun o => k.cell (p := ⟨b, o, none⟩) hb (fun e => e)
  exact ⟨b, off, ua, uc, rfl, Nat.lt_of_lt_of_le hb k.size, (e _).trans c0, (e _).trans c1, (e _).trans c2, (e _).trans c3, (e _).trans c4, (e _).trans c5, (e _).trans c6, (e _).trans c7, ho.on k⟩
/-- A beginning of them. -/
theorem TxnsAt.head {w : World} {a : Option Addr} {L r : List TxM} (h : TxnsAt w a (L ++ r)) : TxnsAt w a L := fun i t ht => h i t (by rw [List.getElem?_append_left (List.getElem?_eq_some_iff.1 ht).1]; exact ht)
theorem OwnT.txns {base base' : Nat} {w : World} {a : Option Addr} {n cap : Nat} {L : List (TxM × Value)} (h : OwnT base w (.slice a n cap) L) (ho : ∀ x ∈ L, OwnO base' w x.2 x.1.ops) : TxnsAt w a (L.map (·.1)) := fun i t ht => by
  rw [List.getElem?_map] at ht
  obtain ⟨⟨t', u⟩, hx, rfl⟩ := Option.map_eq_some_iff.1 ht
  obtain ⟨ua, uc, eu, hops, -⟩ := OwnO.ops (ho _ (List.mem_of_getElem? hx))
  simp only at eu hops
  subst eu
  obtain ⟨g, rfl, -, hg, c0⟩ := row_cell h (txc_get hx 0 (by omega))
  have e : ∀ {j : Nat} {v : Value}, (txc L)[j]? = some v → w.cell? ⟨g, 0 + j, none⟩ = some v := fun hu => by
    obtain ⟨b', eb, -, -, c⟩ := row_cell h hu
    cases eb
    rw [Nat.zero_add]
    exact c
  exact ⟨g, 0, ua, uc, rfl, hg, e (txc_get hx 0 (by omega)), e (txc_get hx 1 (by omega)), e (txc_get hx 2 (by omega)), e (txc_get hx 3 (by omega)), e (txc_get hx 4 (by omega)), e (txc_get hx 5 (by omega)), e (txc_get hx 6 (by omega)), e (txc_get hx 7 (by omega)), hops⟩
theorem op_alike (o : OpM) (w : World) : (binOp .neq 79 (.agg #[.int .i64 o.kind, .string o.key, .bool o.found, .string o.value]) (.agg #[.int .i64 o.kind, .string o.key, .bool o.found, .string o.value])).run Try.prog w = .ok (.bool false) w := by
  obtain ⟨kind, key, found, value⟩ := o
  go_simp
end Go.Proofs.Ytbjmdpfoeeadeaa.Ch.Mc
