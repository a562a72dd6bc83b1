/- What is proved: the law NotationBack returns true and turns nothing that was there; condition: the library's table of powers lies as its text lays it. -/
import Derived.Test.YtlldgibpajbabaaDoorNoDb
import Derived.Test.YtlldgibpajbabaaDoorNoOT
import Derived.Test.YtlldgibpajbabaaDoorNoAn
import Derived.Test.YtlldgibpajbabaaDoorRRVal
namespace Go.Proofs.YtlldgibpajbabaaDoor
open Go.RowKit

def asc (b : UInt8) : Bool := decide (32 ≤ b.toNat) && decide (b.toNat ≤ 126)
theorem asc_wch : ∀ n : Fin 256, wch (UInt8.ofNat n.val) = true → asc (UInt8.ofNat n.val) = true := by decide +kernel
theorem asc_of {b : UInt8} (h : wch b = true) : asc b = true := by
  have := asc_wch ⟨b.toNat, b.toNat_lt⟩
  simp only [UInt8.ofNat_toNat] at this
  exact this h
theorem asc_dg {b : UInt8} (h : dg b = true) : asc b = true := by
  obtain ⟨h1, h2⟩ := dg_nat h
  unfold asc
  rw [decide_eq_true (by omega), decide_eq_true (by omega)]
  rfl
theorem asc_wd (l : List UInt8) : (wd l).all asc = true := by
  rw [List.all_eq_true]
  intro b hb
  exact asc_of (List.all_eq_true.1 (wd_wch l) b hb)
theorem asc_num {p : List UInt8} (hp : p.all asc = true) {n : Int} (h : inF n) : (numL p n).all asc = true := by
  obtain ⟨m, rfl, -⟩ := nat_of h
  unfold numL
  rw [itoa_nat, List.all_append, hp, Bool.true_and, List.all_eq_true]
  intro b hb
  exact asc_dg (List.all_eq_true.1 (dec_dg m) b hb)
theorem asc_letr (k : Int) : asc (letr k) = true := by
  unfold letr
  split
  · decide
  · split <;> decide
theorem asc_op (o : OpM) : (opL o).all asc = true := by
  have h1 := asc_letr o.kind
  unfold opL
  rw [List.all_append, List.all_append, List.all_append, asc_wd]
  simp only [List.all_cons, List.all_nil, h1, show asc 40 = true from by decide, show asc 41 = true from by decide, Bool.and_true, Bool.true_and]
  split
  · rfl
  · rw [List.all_append]
    split
    · rw [asc_wd]; decide
    · decide
theorem asc_ops : ∀ (ops : List OpM), (opsL ops).all asc = true
  | [] => rfl
  | o :: ops => by
    rw [opsL_cons, List.all_append, asc_ops ops, List.all_cons, asc_op, show asc 32 = true from by decide]
    rfl
theorem asc_stw (st : Int) : (stw st).all asc = true := by
  unfold stw
  split <;> decide
theorem asc_line {t : TxM} (h : Form t) : (line t).all asc = true := by
  rw [line_eq]
  simp only [List.all_append, asc_num (p := [115]) (by decide) h.a0, asc_num (p := [32, 113]) (by decide) h.a1, asc_num (p := [32, 116]) (by decide) h.a2, asc_num (p := [45]) (by decide) h.a3, asc_num (p := [32, 99]) (by decide) h.a4, asc_num (p := [45]) (by decide) h.a5, asc_stw, asc_ops, Bool.and_true]
  decide
theorem asc_at {l : List UInt8} (h : l.all asc = true) {k : Nat} {b : UInt8} (hb : l[k]? = some b) : 32 ≤ b.toNat ∧ b.toNat ≤ 126 := by
  have := List.all_eq_true.1 h b (List.mem_of_getElem? hb)
  unfold asc at this
  simpa using this

end Go.Proofs.YtlldgibpajbabaaDoor
