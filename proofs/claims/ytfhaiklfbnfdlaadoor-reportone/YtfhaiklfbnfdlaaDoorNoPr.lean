/- What is proved: the code's Print; conditions: the library's table of powers lies as its text lays it. -/
import Derived.Test.YtfhaiklfbnfdlaaDoorNoAt
namespace Go.Proofs.YtfhaiklfbnfdlaaDoor
open Go.RowKit

def printT (t : TxM) : List UInt8 × Int := if valid t ≠ 0 then ([], valid t) else (line t, 0)
theorem right_of {t : TxM} (h : valid t = 0) : Right t := by
  unfold valid at h
  split at h
  · omega
  · rename_i h1
    split at h
    · omega
    · rename_i h2
      split at h
      · omega
      · rename_i h3
        exact ⟨Classical.not_not.1 h1, by omega, fun o ho => Classical.byContradiction fun hn => h3 ⟨o, ho, hn⟩⟩

end Go.Proofs.YtfhaiklfbnfdlaaDoor
