/-
  No cell of these rows narrows 'for every input' (looked for: loops, veiled, ifaces, maps, wideKeys, modest, calm, conditions, laid).
  DERIVED. THE GIVEN ROWS OF THIS SEAT. 6 by the template 'for every input the law returns true; each argument reads behind the call as it read before'; 0 by the template 'total and deterministic' (their statements: YtbjmdpfoeeadeaaTotals.lean).
  GIVEN WITH THE SEED: the statements are not yours to turn. If you find one false, say at which input.
  Laid BY PROGRAM, IN A SANDBOX (cutbox-rows.mjs): the forced cells as the released guide's own fill.sh prints them over the translation c860267b94fb936a… (all of the seat's roots in one cut). By AI agents, Wed Nov 11 2026. No macro, syntax, notation, axiom, sorry.
-/
import Derived.Test.YtbjmdpfoeeadeaaChecked
import GoSem.Claim
import GoSem.ClaimJoined
import GoSem.ClaimMapViews
import Derived.JoinedTies
import Derived.KernelRfl
namespace Go.Proofs.Ytbjmdpfoeeadeaa
/- THE CELL 'sum', in the pinned program and in every row, IS THE sha256 OF THE DUMP (.gsa) THAT YtbjmdpfoeeadeaaProg.lean LOADS. Nothing in Lean hashes anything: it is a label: what it is worth is what the hold of that sum in a sandbox is worth. -/
noncomputable def Try.pinned : Pinned := { name := "ytbjmdpfoeeadeaa", sum := "c860267b94fb936a63edd213fcbc2474e4c5700c862f0a4128b9bae06b4f1bc2", checked := Try.checked }
namespace Rows
def none {H : Type} : Left H := { results := [], args := [] }

/-- 'proctorlaw17.RulesShape': WHATEVER THE INPUT: true; the input reads as it did. -/
def rulesShapeSpec : ChangeSpec := { name := "rulesShape", fn := fun _ => fun
  | [d1, d2, d3] => { results := [.lit (.bool true)], args := [d1, d2, d3] }
  | _ => none }
def rulesShapeRow : OpenClaim := { program := "ytbjmdpfoeeadeaa", sum := "c860267b94fb936a63edd213fcbc2474e4c5700c862f0a4128b9bae06b4f1bc2", func := "proctor/proctorlaw17.RulesShape", spec := "rulesShape", unfollowed := true, recurses := true, apart := false }
def RulesShapeSaid : Prop := rulesShapeRow.holds Try.pinned (OpenSpec.ofChange rulesShapeSpec)

/-- ITS FALSE NEIGHBOUR: 'it returns false'. Refute it at one input. -/
def rulesShapeWrong : ChangeSpec := { name := "rulesShape", fn := fun _ => fun
  | [d1, d2, d3] => { results := [.lit (.bool false)], args := [d1, d2, d3] }
  | _ => none }
def RulesShapeWrongFalsely : Prop := rulesShapeRow.holds Try.pinned (OpenSpec.ofChange rulesShapeWrong)

/-- 'proctorlaw17.RulesRows': WHATEVER THE INPUT: true; the input reads as it did. -/
def rulesRowsSpec : ChangeSpec := { name := "rulesRows", fn := fun _ => fun
  | [d1, d2] => { results := [.lit (.bool true)], args := [d1, d2] }
  | _ => none }
def rulesRowsRow : OpenClaim := { program := "ytbjmdpfoeeadeaa", sum := "c860267b94fb936a63edd213fcbc2474e4c5700c862f0a4128b9bae06b4f1bc2", func := "proctor/proctorlaw17.RulesRows", spec := "rulesRows", unfollowed := true, recurses := true, apart := false }
def RulesRowsSaid : Prop := rulesRowsRow.holds Try.pinned (OpenSpec.ofChange rulesRowsSpec)

/-- ITS FALSE NEIGHBOUR: 'it returns false'. Refute it at one input. -/
def rulesRowsWrong : ChangeSpec := { name := "rulesRows", fn := fun _ => fun
  | [d1, d2] => { results := [.lit (.bool false)], args := [d1, d2] }
  | _ => none }
def RulesRowsWrongFalsely : Prop := rulesRowsRow.holds Try.pinned (OpenSpec.ofChange rulesRowsWrong)

/-- 'proctorlaw17.RulesSkew': WHATEVER THE INPUT: true; the input reads as it did. -/
def rulesSkewSpec : ChangeSpec := { name := "rulesSkew", fn := fun _ => fun
  | [d1, d2, d3, d4] => { results := [.lit (.bool true)], args := [d1, d2, d3, d4] }
  | _ => none }
def rulesSkewRow : OpenClaim := { program := "ytbjmdpfoeeadeaa", sum := "c860267b94fb936a63edd213fcbc2474e4c5700c862f0a4128b9bae06b4f1bc2", func := "proctor/proctorlaw17.RulesSkew", spec := "rulesSkew", unfollowed := true, recurses := true, apart := false }
def RulesSkewSaid : Prop := rulesSkewRow.holds Try.pinned (OpenSpec.ofChange rulesSkewSpec)

/-- ITS FALSE NEIGHBOUR: 'it returns false'. Refute it at one input. -/
def rulesSkewWrong : ChangeSpec := { name := "rulesSkew", fn := fun _ => fun
  | [d1, d2, d3, d4] => { results := [.lit (.bool false)], args := [d1, d2, d3, d4] }
  | _ => none }
def RulesSkewWrongFalsely : Prop := rulesSkewRow.holds Try.pinned (OpenSpec.ofChange rulesSkewWrong)

/-- 'proctorlaw17.RulesWalk': WHATEVER THE INPUT: true; the input reads as it did. -/
def rulesWalkSpec : ChangeSpec := { name := "rulesWalk", fn := fun _ => fun
  | [d] => { results := [.lit (.bool true)], args := [d] }
  | _ => none }
def rulesWalkRow : OpenClaim := { program := "ytbjmdpfoeeadeaa", sum := "c860267b94fb936a63edd213fcbc2474e4c5700c862f0a4128b9bae06b4f1bc2", func := "proctor/proctorlaw17.RulesWalk", spec := "rulesWalk", unfollowed := true, recurses := true, apart := false }
def RulesWalkSaid : Prop := rulesWalkRow.holds Try.pinned (OpenSpec.ofChange rulesWalkSpec)

/-- ITS FALSE NEIGHBOUR: 'it returns false'. Refute it at one input. -/
def rulesWalkWrong : ChangeSpec := { name := "rulesWalk", fn := fun _ => fun
  | [d] => { results := [.lit (.bool false)], args := [d] }
  | _ => none }
def RulesWalkWrongFalsely : Prop := rulesWalkRow.holds Try.pinned (OpenSpec.ofChange rulesWalkWrong)

/-- 'proctorlaw17.RulesRepeat': WHATEVER THE INPUT: true; the input reads as it did. -/
def rulesRepeatSpec : ChangeSpec := { name := "rulesRepeat", fn := fun _ => fun
  | [d] => { results := [.lit (.bool true)], args := [d] }
  | _ => none }
def rulesRepeatRow : OpenClaim := { program := "ytbjmdpfoeeadeaa", sum := "c860267b94fb936a63edd213fcbc2474e4c5700c862f0a4128b9bae06b4f1bc2", func := "proctor/proctorlaw17.RulesRepeat", spec := "rulesRepeat", unfollowed := true, recurses := true, apart := false }
def RulesRepeatSaid : Prop := rulesRepeatRow.holds Try.pinned (OpenSpec.ofChange rulesRepeatSpec)

/-- ITS FALSE NEIGHBOUR: 'it returns false'. Refute it at one input. -/
def rulesRepeatWrong : ChangeSpec := { name := "rulesRepeat", fn := fun _ => fun
  | [d] => { results := [.lit (.bool false)], args := [d] }
  | _ => none }
def RulesRepeatWrongFalsely : Prop := rulesRepeatRow.holds Try.pinned (OpenSpec.ofChange rulesRepeatWrong)

/-- 'proctorlaw17.RulesMachine': WHATEVER THE INPUT: true; the input reads as it did. -/
def rulesMachineSpec : ChangeSpec := { name := "rulesMachine", fn := fun _ => fun
  | [d1, d2, d3, d4] => { results := [.lit (.bool true)], args := [d1, d2, d3, d4] }
  | _ => none }
def rulesMachineRow : OpenClaim := { program := "ytbjmdpfoeeadeaa", sum := "c860267b94fb936a63edd213fcbc2474e4c5700c862f0a4128b9bae06b4f1bc2", func := "proctor/proctorlaw17.RulesMachine", spec := "rulesMachine", unfollowed := true, recurses := true, apart := false }
def RulesMachineSaid : Prop := rulesMachineRow.holds Try.pinned (OpenSpec.ofChange rulesMachineSpec)

/-- ITS FALSE NEIGHBOUR: 'it returns false'. Refute it at one input. -/
def rulesMachineWrong : ChangeSpec := { name := "rulesMachine", fn := fun _ => fun
  | [d1, d2, d3, d4] => { results := [.lit (.bool false)], args := [d1, d2, d3, d4] }
  | _ => none }
def RulesMachineWrongFalsely : Prop := rulesMachineRow.holds Try.pinned (OpenSpec.ofChange rulesMachineWrong)

/- THE SECOND FORM. 'bulk': how many values and letters a reading holds, each counted each time it is reached (what is shared counts as often as it is met; a slice's spare places count too). A statement '..UptoSaid' is the law's where the arguments, and the package variables that the reading takes, are together of bulk at most 1048576: NARROWER than '..Said'. Prove '..Said' where nothing that the law and all that it calls make is longer than what came in: it says more and counts as full. Else prove '..UptoSaid'. A law counts once. -/
mutual
def uptoBulk {H : Type} : DataW H → Nat
  | .lit (.string bytes) => bytes.length + 1
  | .lit _ => 1
  | .nil => 1
  | .ptr d => uptoBulk d + 1
  | .slice elems spare => uptoBulkAll elems + uptoBulkAll spare + 1
  | .agg parts => uptoBulkAll parts + 1
  | .iface _ d => uptoBulk d + 1
  | .map entries => uptoBulkEntries entries + 1
  | .held _ => 1
def uptoBulkAll {H : Type} : List (DataW H) → Nat
  | [] => 0
  | d :: r => uptoBulk d + uptoBulkAll r
def uptoBulkEntries {H : Type} : List (Lit × DataW H) → Nat
  | [] => 0
  | x :: r => uptoBulkEntry x + uptoBulkEntries r
def uptoBulkEntry {H : Type} : Lit × DataW H → Nat
  | (.string bytes, d) => bytes.length + uptoBulk d + 1
  | (_, d) => uptoBulk d + 1
 end
def uptoSmall : (H : Type) → List (DataW H) → Bool := fun _ ds => decide (uptoBulkAll ds ≤ 1048576)
def OpenSpec.upto (s : _root_.Go.ChangeSpec) : _root_.Go.OpenSpec := { _root_.Go.OpenSpec.ofChange s with cond := some uptoSmall }

/-- 'proctorlaw17.RulesShape', WHERE WHAT IT READS IS OF BULK AT MOST 1048576: true; the input reads as it did. -/
def rulesShapeUptoRow : OpenClaim := { program := "ytbjmdpfoeeadeaa", sum := "c860267b94fb936a63edd213fcbc2474e4c5700c862f0a4128b9bae06b4f1bc2", func := "proctor/proctorlaw17.RulesShape", spec := "rulesShape", unfollowed := true, recurses := true, apart := false, narrowed := true }
def RulesShapeUptoSaid : Prop := rulesShapeUptoRow.holds Try.pinned (OpenSpec.upto rulesShapeSpec)

/-- 'proctorlaw17.RulesRows', WHERE WHAT IT READS IS OF BULK AT MOST 1048576: true; the input reads as it did. -/
def rulesRowsUptoRow : OpenClaim := { program := "ytbjmdpfoeeadeaa", sum := "c860267b94fb936a63edd213fcbc2474e4c5700c862f0a4128b9bae06b4f1bc2", func := "proctor/proctorlaw17.RulesRows", spec := "rulesRows", unfollowed := true, recurses := true, apart := false, narrowed := true }
def RulesRowsUptoSaid : Prop := rulesRowsUptoRow.holds Try.pinned (OpenSpec.upto rulesRowsSpec)

/-- 'proctorlaw17.RulesSkew', WHERE WHAT IT READS IS OF BULK AT MOST 1048576: true; the input reads as it did. -/
def rulesSkewUptoRow : OpenClaim := { program := "ytbjmdpfoeeadeaa", sum := "c860267b94fb936a63edd213fcbc2474e4c5700c862f0a4128b9bae06b4f1bc2", func := "proctor/proctorlaw17.RulesSkew", spec := "rulesSkew", unfollowed := true, recurses := true, apart := false, narrowed := true }
def RulesSkewUptoSaid : Prop := rulesSkewUptoRow.holds Try.pinned (OpenSpec.upto rulesSkewSpec)

/-- 'proctorlaw17.RulesWalk', WHERE WHAT IT READS IS OF BULK AT MOST 1048576: true; the input reads as it did. -/
def rulesWalkUptoRow : OpenClaim := { program := "ytbjmdpfoeeadeaa", sum := "c860267b94fb936a63edd213fcbc2474e4c5700c862f0a4128b9bae06b4f1bc2", func := "proctor/proctorlaw17.RulesWalk", spec := "rulesWalk", unfollowed := true, recurses := true, apart := false, narrowed := true }
def RulesWalkUptoSaid : Prop := rulesWalkUptoRow.holds Try.pinned (OpenSpec.upto rulesWalkSpec)

/-- 'proctorlaw17.RulesRepeat', WHERE WHAT IT READS IS OF BULK AT MOST 1048576: true; the input reads as it did. -/
def rulesRepeatUptoRow : OpenClaim := { program := "ytbjmdpfoeeadeaa", sum := "c860267b94fb936a63edd213fcbc2474e4c5700c862f0a4128b9bae06b4f1bc2", func := "proctor/proctorlaw17.RulesRepeat", spec := "rulesRepeat", unfollowed := true, recurses := true, apart := false, narrowed := true }
def RulesRepeatUptoSaid : Prop := rulesRepeatUptoRow.holds Try.pinned (OpenSpec.upto rulesRepeatSpec)

/-- 'proctorlaw17.RulesMachine', WHERE WHAT IT READS IS OF BULK AT MOST 1048576: true; the input reads as it did. -/
def rulesMachineUptoRow : OpenClaim := { program := "ytbjmdpfoeeadeaa", sum := "c860267b94fb936a63edd213fcbc2474e4c5700c862f0a4128b9bae06b4f1bc2", func := "proctor/proctorlaw17.RulesMachine", spec := "rulesMachine", unfollowed := true, recurses := true, apart := false, narrowed := true }
def RulesMachineUptoSaid : Prop := rulesMachineUptoRow.holds Try.pinned (OpenSpec.upto rulesMachineSpec)

end Rows
end Go.Proofs.Ytbjmdpfoeeadeaa
