/- What is proved: Decode of a log that was written; no condition. -/
import Derived.Test.YthnhfahkanpjjabLOneL
namespace Go.Proofs.Ythnhfahkanpjjab
open Go.RowKit

/-- What is written is read back. -/
theorem back_dec {base : Nat} {w : World} {v : Value} {ts : List TxM} (o : OwnB base w v (log7 ts)) (hr : ∀ t ∈ ts, Right t) (hl : ts.length ≤ 4096) : Calls Try.prog 11 #[v] w fun x w' => ∃ v l, l.map TxR.t = ts ∧ x = .returned (.tuple #[v, .int .i64 0, .int .i64 0]) ∧ Lst w.heap.size w' v l ∧ Kept w w' :=
  dec7_own_ok o (byts_log ts) (by have := (log_len hr hl).1; omega) (dec7_log hr hl)
end Go.Proofs.Ythnhfahkanpjjab
