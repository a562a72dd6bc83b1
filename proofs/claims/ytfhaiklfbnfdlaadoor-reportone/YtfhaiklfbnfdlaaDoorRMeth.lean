/- What is proved: Open, Byte, Number and Take of a cursor that lies in memory, at every argument; the bounds that a machine's memory sets. -/
import Derived.Test.YtfhaiklfbnfdlaaDoorRCur
namespace Go.Proofs.YtfhaiklfbnfdlaaDoor
open Go.RowKit

section
variable {w : World} {cb : Nat} {a : Option Addr} {cap : Nat} {l : List Int} {pl : Nat} {ft : Int}
/-- What Number answers, and leaves, where the bytes ahead begin with q. -/
def rNumQ (q : Nat × Nat × Int) (pl : Nat) (ft most : Int) : (Int × Int) × (Nat × Int) :=
  if ft ≠ 0 then ((0, ft), (pl, ft)) else if q.2.2 ≠ 0 then ((0, q.2.2), (pl, q.2.2)) else if most < (q.1 : Int) then ((0, 53), (pl, 53)) else ((q.1, 0), (pl + q.2.1, 0))
def rNum (l : List Int) (pl : Nat) (ft most : Int) : (Int × Int) × (Nat × Int) := rNumQ (num 8 (l.drop pl)) pl ft most
theorem rNumQ_ft {q : Nat × Nat × Int} {pl : Nat} {ft most : Int} (h : ft ≠ 0) : rNumQ q pl ft most = ((0, ft), (pl, ft)) := if_pos h
theorem rNumQ_err {n s pl : Nat} {e most : Int} (h : e ≠ 0) : rNumQ (n, s, e) pl 0 most = ((0, e), (pl, e)) := by
  unfold rNumQ
  rw [if_neg (by decide), if_pos h]
theorem rNumQ_range {n s pl : Nat} {most : Int} (h : most < (n : Int)) : rNumQ (n, s, 0) pl 0 most = ((0, 53), (pl, 53)) := by
  unfold rNumQ
  rw [if_neg (by decide), if_neg (by simp), if_pos h]
theorem rNumQ_ok {n s pl : Nat} {most : Int} (h : ¬ most < (n : Int)) : rNumQ (n, s, 0) pl 0 most = (((n : Int), 0), (pl + s, 0)) := by
  unfold rNumQ
  rw [if_neg (by decide), if_neg (by simp), if_neg h]
/-- What Byte answers, and leaves. -/
def rByte (l : List Int) (pl : Nat) (ft : Int) : (Int × Int) × (Nat × Int) :=
  if ft ≠ 0 then ((0, ft), (pl, ft)) else if l.length ≤ pl then ((0, 51), (pl, 51)) else ((l.getD pl 0, 0), (pl + 1, 0))
/-- What Take answers, and leaves. -/
def rTake (l : List Int) (pl : Nat) (ft n : Int) : (List Int × Int) × (Nat × Int) :=
  if ft ≠ 0 then (([], ft), (pl, ft)) else if n < 0 then (([], 53), (pl, 53)) else if ((l.length - pl : Nat) : Int) < n then (([], 51), (pl, 51)) else (((l.drop pl).take n.toNat, 0), (pl + n.toNat, 0))
end

theorem rByte_ft {l : List Int} {pl : Nat} {ft : Int} (h : ft ≠ 0) : rByte l pl ft = ((0, ft), (pl, ft)) := if_pos h
theorem rTake_ft {l : List Int} {pl : Nat} {ft n : Int} (h : ft ≠ 0) : rTake l pl ft n = (([], ft), (pl, ft)) := if_pos h
end Go.Proofs.YtfhaiklfbnfdlaaDoor
