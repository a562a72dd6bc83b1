/- What is proved: the code's Parse; condition: the line's length. -/
import Derived.Test.YtfhaiklfbnfdlaaDoorNoTr
namespace Go.Proofs.YtfhaiklfbnfdlaaDoor
open Go.RowKit

def tz0 : TxM := ⟨0, 0, 0, 0, 0, 0, 0, []⟩
/-- What Parse answers. -/
def parseT (l : List UInt8) : TxM × Int := if (readT l).2 = false then (tz0, 210) else if valid (readT l).1 ≠ 0 then (tz0, valid (readT l).1) else ((readT l).1, 0)
end Go.Proofs.YtfhaiklfbnfdlaaDoor
