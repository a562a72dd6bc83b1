/- What is proved: plain facts on lists of transactions that lie in memory; no condition. -/
import Derived.Test.YtbjmdpfoeeadeaaRArg
namespace Go.Proofs.Ytbjmdpfoeeadeaa
open Go.RowKit

/-- A transaction, and where its operations lie. -/
structure TxR where
  t : TxM
  a : Option Addr
  c : Nat
def TxR.v (r : TxR) : Value := txV r.t (.slice r.a r.t.ops.length r.c)
def TxR.cells (r : TxR) : List Value := [.int .i64 r.t.f0, .int .i64 r.t.f1, .int .i64 r.t.f2, .int .i64 r.t.f3, .int .i64 r.t.f4, .int .i64 r.t.f5, .int .i64 r.t.f6, .slice r.a r.t.ops.length r.c]
def txc (l : List TxR) : List Value := l.flatMap TxR.cells
theorem txc_cons (r : TxR) (l : List TxR) : txc (r :: l) = r.cells ++ txc l := rfl
theorem txc_append (a b : List TxR) : txc (a ++ b) = txc a ++ txc b := by simp [txc]
theorem length_txc (l : List TxR) : (txc l).length = l.length * 8 := by
  induction l with
  | nil => rfl
  | cons a r ih =>
    rw [txc_cons, List.length_append, ih]
    simp only [TxR.cells, List.length_cons, List.length_nil]
    omega
theorem txc_get {l : List TxR} {i : Nat} {r : TxR} (h : l[i]? = some r) {j : Nat} (hj : j < 8) : (txc l)[i * 8 + j]? = r.cells[j]? := by
  induction l generalizing i with
  | nil => simp at h
  | cons a l ih =>
    rw [txc_cons]
    cases i with
    | zero =>
      simp only [List.getElem?_cons_zero, Option.some.injEq] at h
      subst h
      rw [Nat.zero_mul, Nat.zero_add, List.getElem?_append_left (by simpa [TxR.cells] using hj)]
    | succ i =>
      simp only [List.getElem?_cons_succ] at h
      rw [List.getElem?_append_right (by simp only [TxR.cells, List.length_cons, List.length_nil]; omega), ← ih h]
      congr 1
      simp only [TxR.cells, List.length_cons, List.length_nil]
      omega
theorem txc_one (l : List TxR) : ∀ v ∈ txc l, v.oneCell' = true := by
  intro v hv
  obtain ⟨o, _, hf⟩ := List.mem_flatMap.1 hv
  simp only [TxR.cells, List.mem_cons, List.not_mem_nil, or_false] at hf
  rcases hf with rfl | rfl | rfl | rfl | rfl | rfl | rfl | rfl <;> rfl
/-- The transactions l lie in w from address a on. -/
def TxsAt (w : World) (a : Option Addr) (l : List TxR) : Prop := ∀ i r, l[i]? = some r → ∃ b off, a = some ⟨b, off, none⟩ ∧ b < w.heap.size ∧ ∀ j, j < 8 → w.cell? ⟨b, off + i * 8 + j, none⟩ = r.cells[j]?
/-- Their operations lie in w. -/
def Deep (w : World) (l : List TxR) : Prop := ∀ r ∈ l, OpsAt w r.a r.t.ops
theorem Deep.on {w w' : World} {l : List TxR} (h : Deep w l) (k : Kept w w') : Deep w' l := fun r hr => (h r hr).on k
theorem Deep.cons {w : World} {l : List TxR} {r : TxR} (h : OpsAt w r.a r.t.ops) (k : Deep w l) : Deep w (r :: l) := fun x hx => by
  rcases List.mem_cons.1 hx with rfl | hx
  · exact h
  · exact k x hx
theorem Deep.append {w : World} {l m : List TxR} (h : Deep w l) (k : Deep w m) : Deep w (l ++ m) := fun x hx => by
  rcases List.mem_append.1 hx with hx | hx
  · exact h x hx
  · exact k x hx
theorem Deep.get {w : World} {l : List TxR} (h : Deep w l) {i : Nat} {r : TxR} (hr : l[i]? = some r) : TxA w r.t r.v := ⟨r.a, r.c, rfl, h r (List.mem_of_getElem? hr)⟩
theorem TxsAt.nil (w : World) (a : Option Addr) : TxsAt w a [] := fun i x h => by simp at h
theorem TxsAt.kept {S : Nat → Prop} {w w' : World} {a : Option Addr} {l : List TxR} (h : TxsAt w a l) (hs : Same S w w') (hd : ∀ k, InB a l.length k → ¬ S k) : TxsAt w' a l := fun i x hx => by
  obtain ⟨b, off, rfl, hb, hc⟩ := h i x hx
  have hk := hd b ⟨pos_of_get hx, off, rfl⟩
  exact ⟨b, off, rfl, Nat.lt_of_lt_of_le hb hs.size, fun j hj => (hs.cell (p := ⟨b, _, none⟩) hb hk).trans (hc j hj)⟩
theorem TxsAt.on {w w' : World} {a : Option Addr} {l : List TxR} (h : TxsAt w a l) (hs : Kept w w') : TxsAt w' a l := h.kept hs fun _ _ h => h
/-- The eight cells of the transaction at place i. -/
theorem TxsAt.get {w : World} {b off : Nat} {l : List TxR} (h : TxsAt w (some ⟨b, off, none⟩) l) {i : Nat} {r : TxR} (hr : l[i]? = some r) :
    w.cell? ⟨b, off + i * 8, none⟩ = some (.int .i64 r.t.f0) ∧ w.cell? ⟨b, off + i * 8 + 1, none⟩ = some (.int .i64 r.t.f1) ∧ w.cell? ⟨b, off + i * 8 + 2, none⟩ = some (.int .i64 r.t.f2) ∧ w.cell? ⟨b, off + i * 8 + 3, none⟩ = some (.int .i64 r.t.f3) ∧ w.cell? ⟨b, off + i * 8 + 4, none⟩ = some (.int .i64 r.t.f4) ∧ w.cell? ⟨b, off + i * 8 + 5, none⟩ = some (.int .i64 r.t.f5) ∧ w.cell? ⟨b, off + i * 8 + 6, none⟩ = some (.int .i64 r.t.f6) ∧ w.cell? ⟨b, off + i * 8 + 7, none⟩ = some (.slice r.a r.t.ops.length r.c) := by
  obtain ⟨b', off', e, -, hc⟩ := h i r hr
  cases e
  exact ⟨hc 0 (by decide), hc 1 (by decide), hc 2 (by decide), hc 3 (by decide), hc 4 (by decide), hc 5 (by decide), hc 6 (by decide), hc 7 (by decide)⟩
/-- The value v is a row of one's own of the transactions l. -/
def OwnT (base : Nat) (w : World) (v : Value) (l : List TxR) : Prop := w.ownsRow base 24 8 v l.length (txc l)
theorem OwnT.nil (base : Nat) (w : World) : OwnT base w (.slice none 0 0) [] := World.ownsRow_nil w base 24 8
theorem OwnT.txs {base : Nat} {w : World} {v : Value} {l : List TxR} (h : OwnT base w v l) : ∃ a cap, v = .slice a l.length cap ∧ TxsAt w a l ∧ l.length ≤ cap ∧ (a = none → l.length = 0 ∧ cap = 0) ∧ (∀ k off, a = some ⟨k, off, none⟩ → base ≤ k ∧ off = 0) ∧ (∀ ad, a = some ad → ad.spot = none) := by
  rcases h.2 with ⟨rfl, hn⟩ | ⟨g, cap, cur, rfl, hb, hg, h1, h2, h3, h4⟩
  · obtain rfl : l = [] := List.eq_nil_of_length_eq_zero hn
    exact ⟨none, 0, rfl, TxsAt.nil _ _, Nat.le_refl _, fun _ => ⟨rfl, rfl⟩, fun _ _ e => (by cases e), fun _ e => (by cases e)⟩
  · refine ⟨_, cap, rfl, fun i x hx => ⟨g, 0, rfl, lt_of_heap hg, fun j hj => ?_⟩, h1, fun e => (by cases e), fun k off e => (by cases e; exact ⟨hb, rfl⟩), fun _ e => (by cases e; rfl)⟩
    have hi := (List.getElem?_eq_some_iff.1 hx).1
    rw [cell_of hg, Nat.zero_add, ← txc_get hx hj, ← h4, List.getElem?_take_of_lt (by omega)]
    simp
theorem OwnT.kept {S : Nat → Prop} {base : Nat} {w w' : World} {v : Value} {l : List TxR} (h : OwnT base w v l) (hs : Same S w w') (hn : ∀ k, v.ownBlock = some k → ¬ S k) : OwnT base w' v l := by
  rcases h.2 with ⟨rfl, h0⟩ | ⟨g, cap, cur, rfl, hb, hg, hr⟩
  · exact ⟨h.1, .inl ⟨rfl, h0⟩⟩
  · exact ⟨h.1, .inr ⟨g, cap, cur, rfl, hb, (hs.block _ (lt_of_heap hg) (hn g rfl)).trans hg, hr⟩⟩
theorem OwnT.on {base : Nat} {w w' : World} {v : Value} {l : List TxR} (h : OwnT base w v l) (hs : Kept w w') : OwnT base w' v l := h.kept hs fun _ _ h => h
theorem OwnT.lower {base base' : Nat} {w : World} {v : Value} {l : List TxR} (h : OwnT base w v l) (hb : base' ≤ base) : OwnT base' w v l := by
  rcases h.2 with ⟨rfl, h0⟩ | ⟨g, cap, cur, rfl, hb', hr⟩
  · exact ⟨h.1, .inl ⟨rfl, h0⟩⟩
  · exact ⟨h.1, .inr ⟨g, cap, cur, rfl, Nat.le_trans hb hb', hr⟩⟩
theorem OwnT.block {base : Nat} {w : World} {v : Value} {l : List TxR} (h : OwnT base w v l) {k : Nat} (hk : v.ownBlock = some k) : base ≤ k ∧ k < w.heap.size := by
  rcases h.2 with ⟨rfl, h0⟩ | ⟨g, cap, cur, rfl, hb, hg, hr⟩
  · cases hk
  · cases hk
    exact ⟨hb, lt_of_heap hg⟩
/-- A row of one transaction. -/
theorem txs_new (w : World) (r : TxR) (ty : TypeId) : ∀ j u, (txc [r])[j]? = some u → (w.alloc (.cells #[.int .i64 r.t.f0, .int .i64 r.t.f1, .int .i64 r.t.f2, .int .i64 r.t.f3, .int .i64 r.t.f4, .int .i64 r.t.f5, .int .i64 r.t.f6, .slice r.a r.t.ops.length r.c] ty)).cell? ((⟨w.heap.size, 0, none⟩ : Addr).add j) = some u := fun j u hu => by
  rw [Addr.add_lit, Nat.zero_add, cell_of (heap_new w _)]
  rw [← hu]
  simp [txc, TxR.cells]
end Go.Proofs.Ytbjmdpfoeeadeaa
