/- What is proved: plain facts on what is told of session rows; no condition. -/
import Derived.Test.YtbjmdpfoeeadeabJAnc
import Derived.Test.YtbjmdpfoeeadeabQCmp
namespace Go.Proofs.Ytbjmdpfoeeadeab.Sw
open Go.RowKit

abbrev rwO (r : Rw.RwM) (ty : TypeId) : Obj := .cells #[.int .i64 r.kind, .int .i64 r.time, .int .i64 r.seq, .int .i64 r.index, .int .i64 r.frm, .int .i64 r.til, .string r.body] ty (0, 0)
/-- The violation of a row against the one ahead of it. -/
def fv (kd : Int) (a r : Rw.RwM) : Vl := ⟨kd, r.frm, r.index, -1, a.index, ⟨#[]⟩, false, ⟨#[]⟩, false, ⟨#[]⟩, a.til, r.frm⟩
def fol (a r : Rw.RwM) : List Vl := if ¬ r.time = a.time then [] else if r.seq = a.seq then [fv 9 a r] else if r.frm < a.til then [fv 10 a r] else []
theorem fol_len (a r : Rw.RwM) : (fol a r).length ≤ 1 := by
  unfold fol
  split
  · simp
  · split
    · simp
    · split <;> simp
/-- What a walk keeps of a row. -/
def lsR (r : Rw.RwM) : Rw.RwM := ⟨0, r.time, r.seq, r.index, 0, r.til, ⟨#[]⟩⟩
def q0R : Rw.RwM := ⟨0, -1, 0, 0, 0, 0, ⟨#[]⟩⟩
theorem fol_ls (a r : Rw.RwM) : fol (lsR a) r = fol a r := rfl
theorem comp_ls (a r : Rw.RwM) : Rw.comp 2 (lsR a) r = Rw.comp 2 a r := rfl
def codW (q r : Rw.RwM) : Int := if ¬ Rw.rightR r then 90 else if ¬ r.kind = 3 then 90 else if 0 ≤ Rw.comp 2 q r then 161 else 0
def lisW (q r : Rw.RwM) : List Vl := if codW q r = 0 then fol q r else []
def nxW (q r : Rw.RwM) : Rw.RwM := if codW q r = 0 then lsR r else q
theorem lisW_len (q r : Rw.RwM) : (lisW q r).length ≤ 1 := by
  unfold lisW
  split
  · exact fol_len q r
  · simp

end Go.Proofs.Ytbjmdpfoeeadeab.Sw
