/-
  No cell of these rows narrows 'for every input' (looked for: loops, veiled, ifaces, maps, wideKeys, modest, calm, conditions, laid).
  DERIVED. THE GIVEN ROWS OF THIS SEAT. 4 by the template 'for every input the law returns true; each argument reads behind the call as it read before'; 0 by the template 'total and deterministic' (their statements: YthnhfahkanpjjabTotals.lean).
  GIVEN WITH THE SEED: the statements are not yours to turn. If you find one false, say at which input.
  Laid BY PROGRAM, IN A SANDBOX (cutbox-rows.mjs): the forced cells as the released guide's own fill.sh prints them over the translation 804ed6b5579d3e81… (all of the seat's roots in one cut). By AI agents, Wed Nov 11 2026. No macro, syntax, notation, axiom, sorry.
-/
import Derived.Test.YthnhfahkanpjjabChecked
import GoSem.Claim
import GoSem.ClaimJoined
import GoSem.ClaimMapViews
import Derived.JoinedTies
import Derived.KernelRfl
namespace Go.Proofs.Ythnhfahkanpjjab
/- THE CELL 'sum', in the pinned program and in every row, IS THE sha256 OF THE DUMP (.gsa) THAT YthnhfahkanpjjabProg.lean LOADS. Nothing in Lean hashes anything: it is a label: what it is worth is what the hold of that sum in a sandbox is worth. -/
noncomputable def Try.pinned : Pinned := { name := "ythnhfahkanpjjab", sum := "804ed6b5579d3e81e3c0756074c8f0b30f1467d870c2c4e65823467bcd9f1a94", checked := Try.checked }
namespace Rows
def none {H : Type} : Left H := { results := [], args := [] }

/-- 'proctorlaw07.LogfileCut': WHATEVER THE INPUT: true; the input reads as it did. -/
def logfileCutSpec : ChangeSpec := { name := "logfileCut", fn := fun _ => fun
  | [d1, d2, d3] => { results := [.lit (.bool true)], args := [d1, d2, d3] }
  | _ => none }
def logfileCutRow : OpenClaim := { program := "ythnhfahkanpjjab", sum := "804ed6b5579d3e81e3c0756074c8f0b30f1467d870c2c4e65823467bcd9f1a94", func := "proctor/proctorlaw07.LogfileCut", spec := "logfileCut", unfollowed := true, recurses := true, apart := false }
def LogfileCutSaid : Prop := logfileCutRow.holds Try.pinned (OpenSpec.ofChange logfileCutSpec)

/-- ITS FALSE NEIGHBOUR: 'it returns false'. Refute it at one input. -/
def logfileCutWrong : ChangeSpec := { name := "logfileCut", fn := fun _ => fun
  | [d1, d2, d3] => { results := [.lit (.bool false)], args := [d1, d2, d3] }
  | _ => none }
def LogfileCutWrongFalsely : Prop := logfileCutRow.holds Try.pinned (OpenSpec.ofChange logfileCutWrong)

/-- 'proctorlaw07.LogfileEarly': WHATEVER THE INPUT: true; the input reads as it did. -/
def logfileEarlySpec : ChangeSpec := { name := "logfileEarly", fn := fun _ => fun
  | [d1, d2] => { results := [.lit (.bool true)], args := [d1, d2] }
  | _ => none }
def logfileEarlyRow : OpenClaim := { program := "ythnhfahkanpjjab", sum := "804ed6b5579d3e81e3c0756074c8f0b30f1467d870c2c4e65823467bcd9f1a94", func := "proctor/proctorlaw07.LogfileEarly", spec := "logfileEarly", unfollowed := true, recurses := true, apart := false }
def LogfileEarlySaid : Prop := logfileEarlyRow.holds Try.pinned (OpenSpec.ofChange logfileEarlySpec)

/-- ITS FALSE NEIGHBOUR: 'it returns false'. Refute it at one input. -/
def logfileEarlyWrong : ChangeSpec := { name := "logfileEarly", fn := fun _ => fun
  | [d1, d2] => { results := [.lit (.bool false)], args := [d1, d2] }
  | _ => none }
def LogfileEarlyWrongFalsely : Prop := logfileEarlyRow.holds Try.pinned (OpenSpec.ofChange logfileEarlyWrong)

/-- 'proctorlaw07.LogfileMany': WHATEVER THE INPUT: true; the input reads as it did. -/
def logfileManySpec : ChangeSpec := { name := "logfileMany", fn := fun _ => fun
  | [d] => { results := [.lit (.bool true)], args := [d] }
  | _ => none }
def logfileManyRow : OpenClaim := { program := "ythnhfahkanpjjab", sum := "804ed6b5579d3e81e3c0756074c8f0b30f1467d870c2c4e65823467bcd9f1a94", func := "proctor/proctorlaw07.LogfileMany", spec := "logfileMany", unfollowed := true, recurses := true, apart := false }
def LogfileManySaid : Prop := logfileManyRow.holds Try.pinned (OpenSpec.ofChange logfileManySpec)

/-- ITS FALSE NEIGHBOUR: 'it returns false'. Refute it at one input. -/
def logfileManyWrong : ChangeSpec := { name := "logfileMany", fn := fun _ => fun
  | [d] => { results := [.lit (.bool false)], args := [d] }
  | _ => none }
def LogfileManyWrongFalsely : Prop := logfileManyRow.holds Try.pinned (OpenSpec.ofChange logfileManyWrong)

/-- 'proctorlaw07.LogfileMemory': WHATEVER THE INPUT: true; the input reads as it did. -/
def logfileMemorySpec : ChangeSpec := { name := "logfileMemory", fn := fun _ => fun
  | [d] => { results := [.lit (.bool true)], args := [d] }
  | _ => none }
def logfileMemoryRow : OpenClaim := { program := "ythnhfahkanpjjab", sum := "804ed6b5579d3e81e3c0756074c8f0b30f1467d870c2c4e65823467bcd9f1a94", func := "proctor/proctorlaw07.LogfileMemory", spec := "logfileMemory", unfollowed := true, recurses := true, apart := false }
def LogfileMemorySaid : Prop := logfileMemoryRow.holds Try.pinned (OpenSpec.ofChange logfileMemorySpec)

/-- ITS FALSE NEIGHBOUR: 'it returns false'. Refute it at one input. -/
def logfileMemoryWrong : ChangeSpec := { name := "logfileMemory", fn := fun _ => fun
  | [d] => { results := [.lit (.bool false)], args := [d] }
  | _ => none }
def LogfileMemoryWrongFalsely : Prop := logfileMemoryRow.holds Try.pinned (OpenSpec.ofChange logfileMemoryWrong)

/- THE SECOND FORM. 'bulk': how many values and letters a reading holds, each counted each time it is reached (what is shared counts as often as it is met; a slice's spare places count too). A statement '..UptoSaid' is the law's where the arguments, and the package variables that the reading takes, are together of bulk at most 1048576: NARROWER than '..Said'. Prove '..Said' where nothing that the law and all that it calls make is longer than what came in: it says more and counts as full. Else prove '..UptoSaid'. A law counts once. -/
mutual
def uptoBulk {H : Type} : DataW H → Nat
  | .lit (.string bytes) => bytes.length + 1
  | .lit _ => 1
  | .nil => 1
  | .ptr d => uptoBulk d + 1
  | .slice elems spare => uptoBulkAll elems + uptoBulkAll spare + 1
  | .agg parts => uptoBulkAll parts + 1
  | .iface _ d => uptoBulk d + 1
  | .map entries => uptoBulkEntries entries + 1
  | .held _ => 1
def uptoBulkAll {H : Type} : List (DataW H) → Nat
  | [] => 0
  | d :: r => uptoBulk d + uptoBulkAll r
def uptoBulkEntries {H : Type} : List (Lit × DataW H) → Nat
  | [] => 0
  | x :: r => uptoBulkEntry x + uptoBulkEntries r
def uptoBulkEntry {H : Type} : Lit × DataW H → Nat
  | (.string bytes, d) => bytes.length + uptoBulk d + 1
  | (_, d) => uptoBulk d + 1
 end
def uptoSmall : (H : Type) → List (DataW H) → Bool := fun _ ds => decide (uptoBulkAll ds ≤ 1048576)
def OpenSpec.upto (s : _root_.Go.ChangeSpec) : _root_.Go.OpenSpec := { _root_.Go.OpenSpec.ofChange s with cond := some uptoSmall }

/-- 'proctorlaw07.LogfileCut', WHERE WHAT IT READS IS OF BULK AT MOST 1048576: true; the input reads as it did. -/
def logfileCutUptoRow : OpenClaim := { program := "ythnhfahkanpjjab", sum := "804ed6b5579d3e81e3c0756074c8f0b30f1467d870c2c4e65823467bcd9f1a94", func := "proctor/proctorlaw07.LogfileCut", spec := "logfileCut", unfollowed := true, recurses := true, apart := false, narrowed := true }
def LogfileCutUptoSaid : Prop := logfileCutUptoRow.holds Try.pinned (OpenSpec.upto logfileCutSpec)

/-- 'proctorlaw07.LogfileEarly', WHERE WHAT IT READS IS OF BULK AT MOST 1048576: true; the input reads as it did. -/
def logfileEarlyUptoRow : OpenClaim := { program := "ythnhfahkanpjjab", sum := "804ed6b5579d3e81e3c0756074c8f0b30f1467d870c2c4e65823467bcd9f1a94", func := "proctor/proctorlaw07.LogfileEarly", spec := "logfileEarly", unfollowed := true, recurses := true, apart := false, narrowed := true }
def LogfileEarlyUptoSaid : Prop := logfileEarlyUptoRow.holds Try.pinned (OpenSpec.upto logfileEarlySpec)

/-- 'proctorlaw07.LogfileMany', WHERE WHAT IT READS IS OF BULK AT MOST 1048576: true; the input reads as it did. -/
def logfileManyUptoRow : OpenClaim := { program := "ythnhfahkanpjjab", sum := "804ed6b5579d3e81e3c0756074c8f0b30f1467d870c2c4e65823467bcd9f1a94", func := "proctor/proctorlaw07.LogfileMany", spec := "logfileMany", unfollowed := true, recurses := true, apart := false, narrowed := true }
def LogfileManyUptoSaid : Prop := logfileManyUptoRow.holds Try.pinned (OpenSpec.upto logfileManySpec)

/-- 'proctorlaw07.LogfileMemory', WHERE WHAT IT READS IS OF BULK AT MOST 1048576: true; the input reads as it did. -/
def logfileMemoryUptoRow : OpenClaim := { program := "ythnhfahkanpjjab", sum := "804ed6b5579d3e81e3c0756074c8f0b30f1467d870c2c4e65823467bcd9f1a94", func := "proctor/proctorlaw07.LogfileMemory", spec := "logfileMemory", unfollowed := true, recurses := true, apart := false, narrowed := true }
def LogfileMemoryUptoSaid : Prop := logfileMemoryUptoRow.holds Try.pinned (OpenSpec.upto logfileMemorySpec)

end Rows
end Go.Proofs.Ythnhfahkanpjjab
