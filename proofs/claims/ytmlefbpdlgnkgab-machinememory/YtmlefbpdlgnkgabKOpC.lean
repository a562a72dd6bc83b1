/- What is proved: a list of steps that is an argument lies in memory, and has no room where there is no list; no condition. -/
import Derived.Test.YtmlefbpdlgnkgabKOpn
namespace Go.Proofs.Ytmlefbpdlgnkgab
open Go.ChangeShapes Go.WideShapes Go.ChangeAt Go.RowKit

/-- The same, and a list that is none has no room. -/
def ArgC (W : World) (a : Option Addr) (cap : Nat) (l : List Stp) : Prop := ArgS W a l ∧ (a = none → cap = 0)
theorem open_stepsC {H : Type} {enc : TypeId × Value → H} {W : World} {fuel : Nat} {sa : Option Addr} {len cap : Nat} {d : DataW H} {p : List MemPlace}
    (h : DataW.trod enc Try.prog W 0 (fun _ => true) true fuel 22 [.slice sa len cap] = some (d, p)) : ∃ l : List Stp, len = l.length ∧ ((∀ n ∈ d.weights Try.prog 22, n ≤ reachBytes) → ArgC W sa cap l) := by
  obtain ⟨l, h1, h2⟩ := open_steps h
  refine ⟨l, h1, fun hw => ⟨h2 hw, fun hn => ?_⟩⟩
  rcases Go.Deep.open_slice Try.underlying22 h with ⟨hcs, _⟩ | ⟨a, len', cap', m, n, D, Pl, hcs, _⟩
  · simp only [List.cons.injEq, Value.slice.injEq, and_true] at hcs
    exact hcs.2.2
  · simp only [List.cons.injEq, Value.slice.injEq, and_true] at hcs
    rw [hcs.1] at hn
    cases hn
end Go.Proofs.Ytmlefbpdlgnkgab
