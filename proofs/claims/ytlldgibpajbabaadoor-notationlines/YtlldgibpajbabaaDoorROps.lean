/- What is proved: plain facts on operations that lie in memory, and what 'make' of a list of operations leaves; the bounds that a machine's memory sets. -/
import Derived.Test.YtlldgibpajbabaaDoorRRead
namespace Go.Proofs.YtlldgibpajbabaaDoor
open Go.RowKit

/-- The cells of operations. -/
def opc (l : List OpM) : List Value := l.flatMap fun o => [.int .i64 o.kind, .string o.key, .bool o.found, .string o.value]
theorem length_opc (l : List OpM) : (opc l).length = l.length * 4 := by
  induction l with
  | nil => rfl
  | cons a r ih => simp only [opc, List.flatMap_cons, List.length_append, List.length_cons, List.length_nil] at *; omega
theorem opc_cons (o : OpM) (r : List OpM) : opc (o :: r) = [.int .i64 o.kind, .string o.key, .bool o.found, .string o.value] ++ opc r := rfl
theorem opc_append (a b : List OpM) : opc (a ++ b) = opc a ++ opc b := by simp [opc]
theorem opc_get {l : List OpM} {i : Nat} {o : OpM} (h : l[i]? = some o) : (opc l)[i * 4]? = some (.int .i64 o.kind) ∧ (opc l)[i * 4 + 1]? = some (.string o.key) ∧ (opc l)[i * 4 + 2]? = some (.bool o.found) ∧ (opc l)[i * 4 + 3]? = some (.string o.value) := by
  induction l generalizing i with
  | nil => simp at h
  | cons a r ih =>
    cases i with
    | zero =>
      simp only [List.getElem?_cons_zero, Option.some.injEq] at h
      subst h
      simp [opc]
    | succ i =>
      simp only [List.getElem?_cons_succ] at h
      obtain ⟨h0, h1, h2, h3⟩ := ih h
      have e : ∀ j, (opc (a :: r))[(i + 1) * 4 + j]? = (opc r)[i * 4 + j]? := fun j => by
        rw [opc_cons, List.getElem?_append_right (by simp; omega)]
        congr 1
        simp; omega
      exact ⟨(e 0).trans h0, (e 1).trans h1, (e 2).trans h2, (e 3).trans h3⟩
theorem opc_one (l : List OpM) : ∀ v ∈ opc l, v.oneCell' = true := by
  intro v hv
  obtain ⟨o, _, hf⟩ := List.mem_flatMap.1 hv
  simp only [List.mem_cons, List.not_mem_nil, or_false] at hf
  rcases hf with rfl | rfl | rfl | rfl <;> rfl
theorem opc_set (l : List OpM) (i : Nat) (o : OpM) (h : i < l.length) : ((((opc l).set (i * 4) (.int .i64 o.kind)).set (i * 4 + 1) (.string o.key)).set (i * 4 + 2) (.bool o.found)).set (i * 4 + 3) (.string o.value) = opc (l.set i o) := by
  induction l generalizing i with
  | nil => simp at h
  | cons a r ih =>
    cases i with
    | zero => simp [opc]
    | succ i =>
      have := ih i (by simpa using h)
      rw [List.set_cons_succ, opc_cons, opc_cons, ← this]
      rw [show (i + 1) * 4 = i * 4 + 1 + 1 + 1 + 1 by omega, show i * 4 + 1 + 1 + 1 + 1 + 1 = (i * 4 + 1) + 1 + 1 + 1 + 1 by omega, show i * 4 + 1 + 1 + 1 + 1 + 2 = (i * 4 + 2) + 1 + 1 + 1 + 1 by omega, show i * 4 + 1 + 1 + 1 + 1 + 3 = (i * 4 + 3) + 1 + 1 + 1 + 1 by omega]
      rfl
/-- The operation of zeros. -/
def z0 : OpM := ⟨0, ⟨#[]⟩, false, ⟨#[]⟩⟩
def zc : Array Value := #[.int .i64 0, .string ⟨#[]⟩, .bool false, .string ⟨#[]⟩]
theorem made_ops (n : Nat) : madeCells zc (n * 4) = (opc (List.replicate n z0)).toArray := by
  apply Array.ext'
  rw [List.toList_toArray]
  unfold madeCells
  simp only [Array.toList_map, Array.toList_range]
  induction n with
  | zero => rfl
  | succ n ih =>
    rw [List.replicate_succ', opc_append, ← ih, show (n + 1) * 4 = n * 4 + 1 + 1 + 1 + 1 by omega, List.range_succ, List.range_succ, List.range_succ, List.range_succ]
    simp only [List.map_append, List.append_assoc, List.map_cons, List.map_nil]
    congr 1
    rw [show (n * 4) % zc.size = 0 by show (n * 4) % 4 = 0; omega, show (n * 4 + 1) % zc.size = 1 by show (n * 4 + 1) % 4 = 1; omega, show (n * 4 + 1 + 1) % zc.size = 2 by show (n * 4 + 1 + 1) % 4 = 2; omega, show (n * 4 + 1 + 1 + 1) % zc.size = 3 by show (n * 4 + 1 + 1 + 1) % 4 = 3; omega]
    rfl
theorem Tryd.infoOp : (Tryd.prog.info? 49).map (fun i => (i.zero, i.size, i.bytes)) = some (some (.agg zc), 4, 48) := by kernel_rfl
theorem make_ops (w : World) (n : Nat) (hn : n ≤ 16) : (Instr.makeSlice 23 (.int .i64 (n : Int)) (.int .i64 (n : Int))).run Tryd.prog w = .ok (.slice (some ⟨w.heap.size, 0, none⟩) n n) (w.alloc (.cells (opc (List.replicate n z0)).toArray 49)) := by
  obtain ⟨i0, hi0, hz0, hz1, hz2⟩ := info_parts Tryd.infoOp
  have hr := run_make (P := Tryd.prog) w 23 49 i0 _ Tryd.underlying23 hi0 hz0 .i64 .i64 n n (by omega) (by omega) (by rw [hz2]; omega) (by omega)
  have hc : (Value.agg zc).cells = zc := by rfl
  simp only [Int.toNat_natCast, hz1, hc] at hr
  rw [made_ops] at hr
  exact hr

/-- The operations l lie in w from address a on. -/
def OpsAt (w : World) (a : Option Addr) (l : List OpM) : Prop :=
  ∀ i o, l[i]? = some o → ∃ b off, a = some ⟨b, off, none⟩ ∧ b < w.heap.size ∧ w.cell? ⟨b, off + i * 4, none⟩ = some (.int .i64 o.kind) ∧ w.cell? ⟨b, off + i * 4 + 1, none⟩ = some (.string o.key) ∧
    w.cell? ⟨b, off + i * 4 + 2, none⟩ = some (.bool o.found) ∧ w.cell? ⟨b, off + i * 4 + 3, none⟩ = some (.string o.value)
theorem OpsAt.nil (w : World) (a : Option Addr) : OpsAt w a [] := fun i x h => by simp at h
theorem OpsAt.kept {S : Nat → Prop} {w w' : World} {a : Option Addr} {l : List OpM} (h : OpsAt w a l) (hs : Same S w w') (hd : ∀ k, InB a l.length k → ¬ S k) : OpsAt w' a l := fun i x hx => by
  obtain ⟨b, off, rfl, hb, c0, c1, c2, c3⟩ := h i x hx
  have hk := hd b ⟨pos_of_get hx, off, rfl⟩
  exact ⟨b, off, rfl, Nat.lt_of_lt_of_le hb hs.size, (hs.cell (p := ⟨b, _, none⟩) hb hk).trans c0, (hs.cell (p := ⟨b, _, none⟩) hb hk).trans c1, (hs.cell (p := ⟨b, _, none⟩) hb hk).trans c2, (hs.cell (p := ⟨b, _, none⟩) hb hk).trans c3⟩
theorem OpsAt.on {w w' : World} {a : Option Addr} {l : List OpM} (h : OpsAt w a l) (hs : Kept w w') : OpsAt w' a l := h.kept hs fun _ _ h => h
theorem OpsAt.lt {w : World} {a : Option Addr} {l : List OpM} (h : OpsAt w a l) {k : Nat} (hk : InB a l.length k) : k < w.heap.size := by
  obtain ⟨h0, off, rfl⟩ := hk
  obtain ⟨b, off', e, hb, _⟩ := h 0 l[0] (List.getElem?_eq_getElem h0)
  cases e
  exact hb
/-- The value v is a row of one's own of the operations l. -/
def OwnO (base : Nat) (w : World) (v : Value) (l : List OpM) : Prop := w.ownsRow base 49 4 v l.length (opc l)
theorem OwnO.ops {base : Nat} {w : World} {v : Value} {l : List OpM} (h : OwnO base w v l) : ∃ a cap, v = .slice a l.length cap ∧ OpsAt w a l ∧ l.length ≤ cap ∧ (a = none → l.length = 0 ∧ cap = 0) ∧ (∀ k off, a = some ⟨k, off, none⟩ → base ≤ k ∧ off = 0) ∧ (∀ ad, a = some ad → ad.spot = none) := by
  rcases h.2 with ⟨rfl, hn⟩ | ⟨g, cap, cur, rfl, hb, hg, h1, h2, h3, h4⟩
  · obtain rfl : l = [] := List.eq_nil_of_length_eq_zero hn
    exact ⟨none, 0, rfl, OpsAt.nil _ _, Nat.le_refl _, fun _ => ⟨rfl, rfl⟩, fun _ _ e => (by cases e), fun _ e => (by cases e)⟩
  · refine ⟨_, cap, rfl, fun i x hx => ⟨g, 0, rfl, lt_of_heap hg, ?_⟩, h1, fun e => (by cases e), fun k off e => (by cases e; exact ⟨hb, rfl⟩), fun _ e => (by cases e; rfl)⟩
    have hi := (List.getElem?_eq_some_iff.1 hx).1
    obtain ⟨c0, c1, c2, c3⟩ := opc_get hx
    have hget : ∀ o, o < l.length * 4 → w.cell? ⟨g, 0 + o, none⟩ = (opc l)[o]? := fun o ho => by
      rw [cell_of hg, Nat.zero_add, ← h4, List.getElem?_take_of_lt ho]; simp
    simp only [Nat.zero_add] at hget ⊢
    exact ⟨(hget _ (by omega)).trans c0, (hget _ (by omega)).trans c1, (hget _ (by omega)).trans c2, (hget _ (by omega)).trans c3⟩
theorem OwnO.kept {S : Nat → Prop} {base : Nat} {w w' : World} {v : Value} {l : List OpM} (h : OwnO base w v l) (hs : Same S w w') (hn : ∀ k, v.ownBlock = some k → ¬ S k) : OwnO base w' v l := by
  rcases h.2 with ⟨rfl, h0⟩ | ⟨g, cap, cur, rfl, hb, hg, hr⟩
  · exact ⟨h.1, .inl ⟨rfl, h0⟩⟩
  · exact ⟨h.1, .inr ⟨g, cap, cur, rfl, hb, (hs.block _ (lt_of_heap hg) (hn g rfl)).trans hg, hr⟩⟩
theorem OwnO.on {base : Nat} {w w' : World} {v : Value} {l : List OpM} (h : OwnO base w v l) (hs : Kept w w') : OwnO base w' v l := h.kept hs fun _ _ h => h
theorem OwnO.lower {base base' : Nat} {w : World} {v : Value} {l : List OpM} (h : OwnO base w v l) (hb : base' ≤ base) : OwnO base' w v l := by
  rcases h.2 with ⟨rfl, h0⟩ | ⟨g, cap, cur, rfl, hb', hr⟩
  · exact ⟨h.1, .inl ⟨rfl, h0⟩⟩
  · exact ⟨h.1, .inr ⟨g, cap, cur, rfl, Nat.le_trans hb hb', hr⟩⟩
theorem OwnO.block {base : Nat} {w : World} {v : Value} {l : List OpM} (h : OwnO base w v l) {k : Nat} (hk : v.ownBlock = some k) : base ≤ k ∧ k < w.heap.size := by
  rcases h.2 with ⟨rfl, h0⟩ | ⟨g, cap, cur, rfl, hb, hg, hr⟩
  · cases hk
  · cases hk
    exact ⟨hb, lt_of_heap hg⟩
theorem own_ops {w : World} {base g : Nat} {l : List OpM} (hb : base ≤ g) (hl : l.length ≤ 16) (hg : w.heap[g]? = some (.cells (opc l).toArray 49 (0, 0))) : OwnO base w (.slice (some ⟨g, 0, none⟩) l.length l.length) l :=
  ⟨length_opc l, .inr ⟨g, l.length, _, rfl, hb, hg, Nat.le_refl _, by unfold maxLen; omega, by simp [length_opc], by rw [List.toList_toArray, List.take_of_length_le (by rw [length_opc]; omega)]⟩⟩
/-- A transaction, its operations at sl. -/
def txV (t : TxM) (sl : Value) : Value := .agg #[.int .i64 t.f0, .int .i64 t.f1, .int .i64 t.f2, .int .i64 t.f3, .int .i64 t.f4, .int .i64 t.f5, .int .i64 t.f6, sl]
end Go.Proofs.YtlldgibpajbabaaDoor
