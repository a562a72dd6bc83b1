/- What is proved: what Drop leaves, as a plain list; no condition. -/
import Derived.Test.YtaiaahcblohknaaYFp
namespace Go.Proofs.Ytaiaahcblohknaa

/-- What Drop leaves. -/
def drp (A : List Ks) (fl : Int) : List Ks := A.filter fun y => decide (fl < y.s.t)
theorem drp_length (A : List Ks) (fl : Int) : (drp A fl).length ≤ A.length := List.length_filter_le _ _
end Go.Proofs.Ytaiaahcblohknaa
