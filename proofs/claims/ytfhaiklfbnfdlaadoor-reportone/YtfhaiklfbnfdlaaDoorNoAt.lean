/- What is proved: the code's appendTxn; conditions: the transaction is right, its operations lie below what is written, and lengths. -/
import Derived.Test.YtfhaiklfbnfdlaaDoorNoAo
namespace Go.Proofs.YtfhaiklfbnfdlaaDoor
open Go.RowKit

def headL (t : TxM) : List UInt8 := numL [115] t.f0 ++ numL [32, 113] t.f1 ++ numL [32, 116] t.f2 ++ numL [45] t.f3 ++ numL [32, 99] t.f4 ++ numL [45] t.f5 ++ [32] ++ stw t.f6
def opsL (ops : List OpM) : List UInt8 := ops.flatMap fun o => 32 :: opL o
/-- A transaction's line. -/
def line (t : TxM) : List UInt8 := headL t ++ opsL t.ops
theorem numL_len {p : List UInt8} {n : Int} (hp : p.length ≤ 2) (h0 : 0 ≤ n) (h1 : n ≤ 9223372036854775807) : (numL p n).length ≤ 23 := by
  have := Lib.itoa_length_le n (by omega) h1
  unfold numL
  rw [List.length_append]
  omega
theorem stw_len (st : Int) : (stw st).length ≤ 6 := by unfold stw; split <;> decide
theorem opL_len {o : OpM} (h : rightO o) : (opL o).length ≤ 54 := by
  have h1 : (keyL o).length ≤ 8 := by show o.key.data.toList.length ≤ 8; rw [Array.length_toList]; have := h.1; show o.key.size ≤ 8; omega
  have h2 : (valL o).length ≤ 16 := by show o.value.data.toList.length ≤ 16; rw [Array.length_toList]; have := h.1; show o.value.size ≤ 16; omega
  have w1 := wd_len (keyL o)
  have w2 := wd_len (valL o)
  unfold opL
  simp only [List.length_append, List.length_cons, List.length_nil]
  split
  · simp; omega
  · simp only [List.length_append, List.length_cons, List.length_nil]
    split
    · omega
    · simp; omega
theorem opsL_len : ∀ (ops : List OpM), (∀ o ∈ ops, rightO o) → (opsL ops).length ≤ 55 * ops.length
  | [], _ => Nat.le_refl _
  | o :: r, h => by
    have h1 := opL_len (h o (List.mem_cons_self ..))
    have h2 := opsL_len r (fun o ho => h o (List.mem_cons_of_mem _ ho))
    unfold opsL at h2 ⊢
    rw [List.flatMap_cons, List.length_append, List.length_cons, List.length_cons]
    omega
theorem opsL_snoc {ops : List OpM} {k : Nat} {o : OpM} (h : ops[k]? = some o) : opsL (ops.take (k + 1)) = opsL (ops.take k) ++ (32 :: opL o) := by
  rw [List.take_add_one, h]
  simp [opsL]
theorem headL_len {t : TxM} (h : rightF t) : (headL t).length ≤ 145 := by
  have e : (headL t).length = (numL [115] t.f0).length + (numL [32, 113] t.f1).length + (numL [32, 116] t.f2).length + (numL [45] t.f3).length + (numL [32, 99] t.f4).length + (numL [45] t.f5).length + 1 + (stw t.f6).length := by
    unfold headL
    simp only [List.length_append, List.length_cons, List.length_nil]
  obtain ⟨h0, h1, h2, h3, h4, h5, -⟩ := h
  unfold inB at *
  have g0 := numL_len (p := [115]) (n := t.f0) (by decide) (by omega) (by omega)
  have g1 := numL_len (p := [32, 113]) (n := t.f1) (by decide) (by omega) (by omega)
  have g2 := numL_len (p := [32, 116]) (n := t.f2) (by decide) (by omega) (by omega)
  have g3 := numL_len (p := [45]) (n := t.f3) (by decide) (by omega) (by omega)
  have g4 := numL_len (p := [32, 99]) (n := t.f4) (by decide) (by omega) (by omega)
  have g5 := numL_len (p := [45]) (n := t.f5) (by decide) (by omega) (by omega)
  have g6 := stw_len t.f6
  omega
theorem line_len {t : TxM} (h : Right t) : (line t).length ≤ 1025 := by
  have h1 := headL_len h.1
  have h2 := opsL_len t.ops h.2.2
  have h3 := h.2.1
  unfold line
  rw [List.length_append]
  omega

end Go.Proofs.YtfhaiklfbnfdlaaDoor
