/-
  DERIVED. GIVEN WITH THE SEED: THE CARDS: each row of YtfhaiklfbnfdlabDoorRows.lean that lists a variable, with what it lists TIED to the program's text (the seventh form; the later family's looks); each row that meets fmt, with fmt's text TOLD by the authors' own Lean function (tested against real Go, not proved from fmt's source: count such statements apart). THE CARD IS WHAT COUNTS. Prove the row's statement (the work); the ties are given (YtfhaiklfbnfdlabDoorTie.lean); close each card by the builder's one call (the guide's Derived/Test/ToyasCard.lean, 'card_holds'). Laid BY PROGRAM, IN A SANDBOX (cutbox-door.mjs). By AI agents, Wed Nov 11 2026. No macro, syntax, notation, axiom, sorry.
-/
import Derived.Test.YtfhaiklfbnfdlabDoorRows
import GoSem.ClaimSeven
namespace Go.Proofs.YtfhaiklfbnfdlabDoor
namespace Rows

/-- THE TIED CARD OF 'proctorlaw22.ReportMemory'. -/
def reportMemoryCard : Claim7 := { stood := { row := reportMemoryRow, standIns := [], harness := (true, "fd54faf10289d6c48fd50fe4c38fcb2f02044e984d13b3cba2ef17c50da44abb"), looks := false }, kinds := [], alts := [], laidByText := true, laidKinds := [.data, .data, .data, .data, .data], laidTests := true, laidLooks := .later }
def ReportMemoryCardSaid : Prop := Claim7.holds Tryd.pinned (.plain (OpenSpec.ofChange reportMemorySpec)) reportMemoryCard

/-- THE SECOND FORM's CARD OF 'proctorlaw22.ReportMemory'. -/
def reportMemoryUptoCard : Claim7 := { stood := { row := reportMemoryUptoRow, standIns := [], harness := (true, "fd54faf10289d6c48fd50fe4c38fcb2f02044e984d13b3cba2ef17c50da44abb"), looks := false }, kinds := [], alts := [], laidByText := true, laidKinds := [.data, .data, .data, .data, .data], laidTests := true, laidLooks := .later }
def ReportMemoryUptoCardSaid : Prop := Claim7.holds Tryd.pinned (.plain (OpenSpec.upto reportMemorySpec)) reportMemoryUptoCard
end Rows
end Go.Proofs.YtfhaiklfbnfdlabDoor
