/- What is proved: plain facts on operations that lie in memory, and what 'make' of a list of operations leaves; the bounds that a machine's memory sets. -/
import Derived.Test.YtfhaiklfbnfdlaaDoorRRead
namespace Go.Proofs.YtfhaiklfbnfdlaaDoor
open Go.RowKit

/-- The cells of operations. -/
def opc (l : List OpM) : List Value := l.flatMap fun o => [.int .i64 o.kind, .string o.key, .bool o.found, .string o.value]
theorem length_opc (l : List OpM) : (opc l).length = l.length * 4 := by
  induction l with
  | nil => rfl
  | cons a r ih => simp only [opc, List.flatMap_cons, List.length_append, List.length_cons, List.length_nil] at *; omega
theorem opc_cons (o : OpM) (r : List OpM) : opc (o :: r) = [.int .i64 o.kind, .string o.key, .bool o.found, .string o.value] ++ opc r := rfl
theorem opc_append (a b : List OpM) : opc (a ++ b) = opc a ++ opc b := by simp [opc]
theorem opc_get {l : List OpM} {i : Nat} {o : OpM} (h : l[i]? = some o) : (opc l)[i * 4]? = some (.int .i64 o.kind) ∧ (opc l)[i * 4 + 1]? = some (.string o.key) ∧ (opc l)[i * 4 + 2]? = some (.bool o.found) ∧ (opc l)[i * 4 + 3]? = some (.string o.value) := by
  induction l generalizing i with
  | nil => simp at h
  | cons a r ih =>
    cases i with
    | zero =>
      simp only [List.getElem?_cons_zero, Option.some.injEq] at h
      subst h
      simp [opc]
    | succ i =>
      simp only [List.getElem?_cons_succ] at h
      obtain ⟨h0, h1, h2, h3⟩ := ih h
      have e : ∀ j, (opc (a :: r))[(i + 1) * 4 + j]? = (opc r)[i * 4 + j]? := fun j => by
        rw [opc_cons, List.getElem?_append_right (by simp; omega)]
        congr 1
        simp; omega
      exact ⟨(e 0).trans h0, (e 1).trans h1, (e 2).trans h2, (e 3).trans h3⟩
theorem opc_one (l : List OpM) : ∀ v ∈ opc l, v.oneCell' = true := by
  intro v hv
  obtain ⟨o, _, hf⟩ := List.mem_flatMap.1 hv
  simp only [List.mem_cons, List.not_mem_nil, or_false] at hf
  rcases hf with rfl | rfl | rfl | rfl <;> rfl
theorem opc_set (l : List OpM) (i : Nat) (o : OpM) (h : i < l.length) : ((((opc l).set (i * 4) (.int .i64 o.kind)).set (i * 4 + 1) (.string o.key)).set (i * 4 + 2) (.bool o.found)).set (i * 4 + 3) (.string o.value) = opc (l.set i o) := by
  induction l generalizing i with
  | nil => simp at h
  | cons a r ih =>
    cases i with
    | zero => simp [opc]
    | succ i =>
      have := ih i (by simpa using h)
      rw [List.set_cons_succ, opc_cons, opc_cons, ← this]
      rw [show (i + 1) * 4 = i * 4 + 1 + 1 + 1 + 1 by omega, show i * 4 + 1 + 1 + 1 + 1 + 1 = (i * 4 + 1) + 1 + 1 + 1 + 1 by omega, show i * 4 + 1 + 1 + 1 + 1 + 2 = (i * 4 + 2) + 1 + 1 + 1 + 1 by omega, show i * 4 + 1 + 1 + 1 + 1 + 3 = (i * 4 + 3) + 1 + 1 + 1 + 1 by omega]
      rfl
/-- The operation of zeros. -/
def z0 : OpM := ⟨0, ⟨#[]⟩, false, ⟨#[]⟩⟩
def zc : Array Value := #[.int .i64 0, .string ⟨#[]⟩, .bool false, .string ⟨#[]⟩]
theorem made_ops (n : Nat) : madeCells zc (n * 4) = (opc (List.replicate n z0)).toArray := by
  apply Array.ext'
  rw [List.toList_toArray]
  unfold madeCells
  simp only [Array.toList_map, Array.toList_range]
  induction n with
  | zero => rfl
  | succ n ih =>
    rw [List.replicate_succ', opc_append, ← ih, show (n + 1) * 4 = n * 4 + 1 + 1 + 1 + 1 by omega, List.range_succ, List.range_succ, List.range_succ, List.range_succ]
    simp only [List.map_append, List.append_assoc, List.map_cons, List.map_nil]
    congr 1
    rw [show (n * 4) % zc.size = 0 by show (n * 4) % 4 = 0; omega, show (n * 4 + 1) % zc.size = 1 by show (n * 4 + 1) % 4 = 1; omega, show (n * 4 + 1 + 1) % zc.size = 2 by show (n * 4 + 1 + 1) % 4 = 2; omega, show (n * 4 + 1 + 1 + 1) % zc.size = 3 by show (n * 4 + 1 + 1 + 1) % 4 = 3; omega]
    rfl
/-- The operations l lie in w from address a on. -/
def OpsAt (w : World) (a : Option Addr) (l : List OpM) : Prop :=
  ∀ i o, l[i]? = some o → ∃ b off, a = some ⟨b, off, none⟩ ∧ b < w.heap.size ∧ w.cell? ⟨b, off + i * 4, none⟩ = some (.int .i64 o.kind) ∧ w.cell? ⟨b, off + i * 4 + 1, none⟩ = some (.string o.key) ∧
    w.cell? ⟨b, off + i * 4 + 2, none⟩ = some (.bool o.found) ∧ w.cell? ⟨b, off + i * 4 + 3, none⟩ = some (.string o.value)
theorem OpsAt.nil (w : World) (a : Option Addr) : OpsAt w a [] := fun i x h => by simp at h
theorem OpsAt.kept {S : Nat → Prop} {w w' : World} {a : Option Addr} {l : List OpM} (h : OpsAt w a l) (hs : Same S w w') (hd : ∀ k, InB a l.length k → ¬ S k) : OpsAt w' a l := fun i x hx => by
  obtain ⟨b, off, rfl, hb, c0, c1, c2, c3⟩ := h i x hx
  have hk := hd b ⟨pos_of_get hx, off, rfl⟩
  exact ⟨b, off, rfl, Nat.lt_of_lt_of_le hb hs.size, (hs.cell (p := ⟨b, _, none⟩) hb hk).trans c0, (hs.cell (p := ⟨b, _, none⟩) hb hk).trans c1, (hs.cell (p := ⟨b, _, none⟩) hb hk).trans c2, (hs.cell (p := ⟨b, _, none⟩) hb hk).trans c3⟩
theorem OpsAt.on {w w' : World} {a : Option Addr} {l : List OpM} (h : OpsAt w a l) (hs : Kept w w') : OpsAt w' a l := h.kept hs fun _ _ h => h
theorem OpsAt.lt {w : World} {a : Option Addr} {l : List OpM} (h : OpsAt w a l) {k : Nat} (hk : InB a l.length k) : k < w.heap.size := by
  obtain ⟨h0, off, rfl⟩ := hk
  obtain ⟨b, off', e, hb, _⟩ := h 0 l[0] (List.getElem?_eq_getElem h0)
  cases e
  exact hb
/-- A transaction, its operations at sl. -/
def txV (t : TxM) (sl : Value) : Value := .agg #[.int .i64 t.f0, .int .i64 t.f1, .int .i64 t.f2, .int .i64 t.f3, .int .i64 t.f4, .int .i64 t.f5, .int .i64 t.f6, sl]
end Go.Proofs.YtfhaiklfbnfdlaaDoor
