/- What is proved: nothing of its own: rows as values. -/
import Derived.Test.YtbjmdpfoeeadeabQModel
namespace Go.Proofs.Ytbjmdpfoeeadeab.Rw
open Go.RowKit

/-- A row as a value. -/
def rowV (r : RwM) : Value := .agg #[.int .i64 r.kind, .int .i64 r.time, .int .i64 r.seq, .int .i64 r.index, .int .i64 r.frm, .int .i64 r.til, .string r.body]

end Go.Proofs.Ytbjmdpfoeeadeab.Rw
