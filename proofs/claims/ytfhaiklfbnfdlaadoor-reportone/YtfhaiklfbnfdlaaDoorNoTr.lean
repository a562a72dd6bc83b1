/- What is proved: rows of operations that grow; the code's readTxn; condition: the line's length. -/
import Derived.Test.YtfhaiklfbnfdlaaDoorNoOp
namespace Go.Proofs.YtfhaiklfbnfdlaaDoor
open Go.RowKit

theorem ops_cells {w : World} {ad : Addr} {l : List OpM} (hl : OpsAt w (some ad) l) (j : Nat) (u : Value) (hu : (opc l)[j]? = some u) : w.cell? (ad.add j) = some u := by
  have hj := (List.getElem?_eq_some_iff.1 hu).1
  rw [length_opc] at hj
  obtain ⟨o, ho⟩ : ∃ o, l[j / 4]? = some o := ⟨_, List.getElem?_eq_getElem (by omega)⟩
  obtain ⟨b', off', e, hb', c0, c1, c2, c3⟩ := hl _ _ ho
  cases e
  rw [Addr.add_lit]
  obtain ⟨g0, g1, g2, g3⟩ := opc_get ho
  have h4 : j % 4 = 0 ∨ j % 4 = 1 ∨ j % 4 = 2 ∨ j % 4 = 3 := by omega
  rcases h4 with h4 | h4 | h4 | h4
  · rw [show j = j / 4 * 4 by omega] at hu ⊢
    rw [g0] at hu
    cases hu
    simpa [Nat.add_assoc] using c0
  · rw [show j = j / 4 * 4 + 1 by omega] at hu ⊢
    rw [g1] at hu
    cases hu
    simpa [Nat.add_assoc] using c1
  · rw [show j = j / 4 * 4 + 2 by omega] at hu ⊢
    rw [g2] at hu
    cases hu
    simpa [Nat.add_assoc] using c2
  · rw [show j = j / 4 * 4 + 3 by omega] at hu ⊢
    rw [g3] at hu
    cases hu
    simpa [Nat.add_assoc] using c3
end Go.Proofs.YtfhaiklfbnfdlaaDoor

namespace Go.Proofs.YtfhaiklfbnfdlaaDoor
open Go.RowKit

def nv (p : List UInt8) (s : Rs) : Nat := (numO (mst p s)).getD 0
def nt (p : List UInt8) (s : Rs) : Rs := numS (mst p s)
/-- The states behind the six numbers, the blank and the status. -/
def z1 (l : List UInt8) : Rs := nt [115] ⟨l, false⟩
def z2 (l : List UInt8) : Rs := nt [32, 113] (z1 l)
def z3 (l : List UInt8) : Rs := nt [32, 116] (z2 l)
def z4 (l : List UInt8) : Rs := nt [45] (z3 l)
def z5 (l : List UInt8) : Rs := nt [32, 99] (z4 l)
def z6 (l : List UInt8) : Rs := nt [45] (z5 l)
def z7 (l : List UInt8) : Rs := mst [32] (z6 l)
def z8 (l : List UInt8) : Rs := stsS (z7 l)
def headT (l : List UInt8) (ops : List OpM) : TxM := ⟨nv [115] ⟨l, false⟩, nv [32, 113] (z1 l), nv [32, 116] (z2 l), nv [45] (z3 l), nv [32, 99] (z4 l), nv [45] (z5 l), stsV (z7 l), ops⟩
def opsR : Nat → List OpM → Rs → List OpM × Rs
  | 0, acc, s => (acc, s)
  | n + 1, acc, s => if s.l = [] ∨ s.f = true then (acc, s) else opsR n (if acc.length ≤ 16 then acc ++ [(opR s).1] else acc) (opR s).2
def rk (s : Rs) : Nat := if s.f = true then 0 else s.l.length + 1
/-- The transaction that a line writes, and whether it is of the form. -/
def readT (l : List UInt8) : TxM × Bool := (headT l (opsR (l.length + 2) [] (z8 l)).1, !(opsR (l.length + 2) [] (z8 l)).2.f)
theorem cut_len (p : List UInt8) (s : Rs) : (cutp p s).l.length ≤ s.l.length := trim_le _ _
theorem mst_len (p : List UInt8) (s : Rs) : (mst p s).l.length ≤ s.l.length := trim_le _ _
theorem wrd_len (s : Rs) : (wrdS s).l.length ≤ s.l.length := by show (s.l.drop _).length ≤ _; rw [List.length_drop]; omega
theorem mst_f (p : List UInt8) (s : Rs) (h : s.f = true) : (mst p s).f = true := by unfold mst; rw [h]; rfl
theorem wrd_f (s : Rs) (h : s.f = true) : (wrdS s).f = true := by unfold wrdS bad drp; simp [h]
theorem op_len (s : Rs) : (opR s).2.l.length ≤ (mst [32] s).l.length ∧ ((mst [32] s).f = true → (opR s).2.f = true) := by
  unfold opR
  dsimp only
  generalize mst [32] s = s1
  have c1 := cut_len [114, 40] s1
  split
  · have c2 := wrd_len (cutp [114, 40] s1)
    have c3 := mst_len [41, 61] (wrdS (cutp [114, 40] s1))
    have c4 := cut_len [45] (mst [41, 61] (wrdS (cutp [114, 40] s1)))
    split
    · exact ⟨by dsimp only; omega, fun h => mst_f _ _ (wrd_f _ h)⟩
    · have c5 := wrd_len (cutp [45] (mst [41, 61] (wrdS (cutp [114, 40] s1))))
      exact ⟨by dsimp only; omega, fun h => wrd_f _ (mst_f _ _ (wrd_f _ h))⟩
  · have c2 := cut_len [119, 40] (cutp [114, 40] s1)
    split
    · have c3 := wrd_len (cutp [119, 40] (cutp [114, 40] s1))
      have c4 := mst_len [41, 61] (wrdS (cutp [119, 40] (cutp [114, 40] s1)))
      have c5 := wrd_len (mst [41, 61] (wrdS (cutp [119, 40] (cutp [114, 40] s1))))
      exact ⟨by dsimp only; omega, fun h => wrd_f _ (mst_f _ _ (wrd_f _ h))⟩
    · have c3 := mst_len [100, 40] (cutp [119, 40] (cutp [114, 40] s1))
      have c4 := wrd_len (mst [100, 40] (cutp [119, 40] (cutp [114, 40] s1)))
      have c5 := mst_len [41] (wrdS (mst [100, 40] (cutp [119, 40] (cutp [114, 40] s1))))
      exact ⟨by dsimp only; omega, fun h => mst_f _ _ (wrd_f _ (mst_f _ _ h))⟩
theorem op_rk {s : Rs} (h : s.f = false) : rk (opR s).2 < rk s := by
  obtain ⟨h1, h2⟩ := op_len s
  unfold rk
  rw [h]
  simp only [Bool.false_eq_true, if_false]
  by_cases hp : Lib.hasPrefix s.l [32] = true
  · have : (mst [32] s).l.length + 1 ≤ s.l.length := by
      unfold mst Lib.trimPrefix
      dsimp only
      rw [if_pos hp, List.length_drop]
      unfold Lib.hasPrefix at hp
      have := (List.isPrefixOf_iff_prefix.1 hp).length_le
      simp at this ⊢
      omega
    split <;> omega
  · have : (mst [32] s).f = true := by unfold mst; simp [hp]
    rw [if_pos (h2 this)]
    omega
theorem nt_ok {s : Rs} (h : s.ok) (p : List UInt8) : (nt p s).ok := (h.mst p).num
theorem z8_ok {l : List UInt8} (h : l.length ≤ 140737488355328) : (z8 l).ok := by
  have h0 : (⟨l, false⟩ : Rs).ok := h
  exact ((nt_ok (nt_ok (nt_ok (nt_ok (nt_ok (nt_ok h0 _) _) _) _) _) _).mst _).sts
theorem nt_len (p : List UInt8) (s : Rs) : (nt p s).l.length ≤ s.l.length := Nat.le_trans (by show ((mst p s).l.drop _).length ≤ _; rw [List.length_drop]; omega) (mst_len p s)
theorem z8_len (l : List UInt8) : (z8 l).l.length ≤ l.length := by
  have h1 := nt_len [115] ⟨l, false⟩
  have h2 := nt_len [32, 113] (z1 l)
  have h3 := nt_len [32, 116] (z2 l)
  have h4 := nt_len [45] (z3 l)
  have h5 := nt_len [32, 99] (z4 l)
  have h6 := nt_len [45] (z5 l)
  have h7 := mst_len [32] (z6 l)
  have h8 : (z8 l).l.length ≤ (z7 l).l.length := by
    unfold z8 stsS
    split
    · exact cut_len _ _
    · exact Nat.le_trans (mst_len _ _) (cut_len _ _)
  unfold z7 z6 z5 z4 z3 z2 z1 at *
  simp only at *
  omega
end Go.Proofs.YtfhaiklfbnfdlaaDoor

namespace Go.Proofs.YtfhaiklfbnfdlaaDoor
open Go.RowKit

/-- What is left to read, as a number. -/
def rkAt (w : World) (rb : Nat) : Nat := match w.cell? ⟨rb, 0, none⟩, w.cell? ⟨rb, 1, none⟩ with
  | some (.string s), some (.bool f) => if f = true then 0 else s.size + 1
  | _, _ => 0
theorem results_ct {fn : Func} {a b t : Nat} {P : Program} {w : World} {tmps : Array Value} {ad : Addr} {v : Value} (h : fn.results = #[.cell a t, .tmp b]) (ha : tmps.getD a undef = .pointer (some ad)) (hv : (loadVar t ad).run P w = .ok v w) : (results fn tmps).run P w = .ok (.tuple #[v, tmps.getD b undef]) w := by
  have ha' : tmps[a]?.getD undef = .pointer (some ad) := by simpa using ha
  simp [results, h, ha', asAddr, hv]
theorem drew_heap (X : World) (b : Nat) : X.drew.heap[b]? = X.heap[b]? := rfl
end Go.Proofs.YtfhaiklfbnfdlaaDoor
