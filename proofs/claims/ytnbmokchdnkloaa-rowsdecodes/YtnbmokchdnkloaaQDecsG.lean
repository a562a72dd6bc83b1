/- What is proved: the law RowsDecodes answers true on every list of bytes that begins with a row; the bounds that a machine's memory sets. -/
import Derived.Test.YtnbmokchdnkloaaQDecsL
import Derived.Test.YtnbmokchdnkloaaQRDecG
namespace Go.Proofs.Ytnbmokchdnkloaa
open Go.RowKit

theorem decodes_good (w : World) (oa : Option Addr) (c : Nat) (l : List Int) (h : ArgB w oa c l) {r : RwM} {n : Nat} (he : dec9 l = .ok (r, n)) : Calls Try.prog 4 #[.slice oa l.length c] w fun e w' => e = .returned (.bool true) ∧ Kept w w' := by
  refine decodes_of w oa c l h r n 0 (fun W v base o => ?_) (fun W k => ?_)
  · obtain ⟨a1, c1, rfl, d1, hc1, hn1, -, -⟩ := OwnB.bytes o
    exact decode9_good d1 hn1 (by have := h.le; omega) hc1 h.byts he
  · refine Calls.mono (refDec9_good W oa c l (h.on k) he) ?_
    rintro e w' ⟨k', m⟩
    rw [he] at m
    exact ⟨m, k'⟩
end Go.Proofs.Ytnbmokchdnkloaa
