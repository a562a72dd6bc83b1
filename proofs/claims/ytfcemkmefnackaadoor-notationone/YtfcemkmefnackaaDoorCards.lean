/-
  DERIVED. GIVEN WITH THE SEED: THE CARDS: each row of YtfcemkmefnackaaDoorRows.lean that lists a variable, with what it lists TIED to the program's text (the seventh form; the later family's looks); each row that meets fmt, with fmt's text TOLD by the authors' own Lean function (tested against real Go, not proved from fmt's source: count such statements apart). THE CARD IS WHAT COUNTS. Prove the row's statement (the work); the ties are given (YtfcemkmefnackaaDoorTie.lean); close each card by the builder's one call (the guide's Derived/Test/ToyasCard.lean, 'card_holds'). Laid BY PROGRAM, IN A SANDBOX (cutbox-door.mjs). By AI agents, Wed Nov 11 2026. No macro, syntax, notation, axiom, sorry.
-/
import Derived.Test.YtfcemkmefnackaaDoorRows
import GoSem.ClaimSeven
namespace Go.Proofs.YtfcemkmefnackaaDoor
namespace Rows

/-- THE TIED CARD OF 'proctorlaw21.NotationWords'. -/
def notationWordsCard : Claim7 := { stood := { row := notationWordsRow, standIns := [], harness := (true, "e0bf22b1a529f00419162c4d4fd529bc0949f46b42efbedccd3d1d9e47ea51be"), looks := false }, kinds := [], alts := [], laidByText := true, laidKinds := [.data, .data, .data], laidTests := true, laidLooks := .later }
def NotationWordsCardSaid : Prop := Claim7.holds Tryd.pinned (.plain (OpenSpec.ofChange notationWordsSpec)) notationWordsCard

/-- THE TIED CARD OF 'proctorlaw21.NotationPrints'. -/
def notationPrintsCard : Claim7 := { stood := { row := notationPrintsRow, standIns := [], harness := (true, "e0bf22b1a529f00419162c4d4fd529bc0949f46b42efbedccd3d1d9e47ea51be"), looks := false }, kinds := [], alts := [], laidByText := true, laidKinds := [.data, .data, .data], laidTests := true, laidLooks := .later }
def NotationPrintsCardSaid : Prop := Claim7.holds Tryd.pinned (.plain (OpenSpec.ofChange notationPrintsSpec)) notationPrintsCard

/-- THE TIED CARD OF 'proctorlaw21.NotationParses'. -/
def notationParsesCard : Claim7 := { stood := { row := notationParsesRow, standIns := [], harness := (true, "e0bf22b1a529f00419162c4d4fd529bc0949f46b42efbedccd3d1d9e47ea51be"), looks := false }, kinds := [], alts := [], laidByText := true, laidKinds := [.data, .data, .data], laidTests := true, laidLooks := .later }
def NotationParsesCardSaid : Prop := Claim7.holds Tryd.pinned (.plain (OpenSpec.ofChange notationParsesSpec)) notationParsesCard

/-- THE TIED CARD OF 'proctorlaw21.NotationBack'. -/
def notationBackCard : Claim7 := { stood := { row := notationBackRow, standIns := [], harness := (true, "e0bf22b1a529f00419162c4d4fd529bc0949f46b42efbedccd3d1d9e47ea51be"), looks := false }, kinds := [], alts := [], laidByText := true, laidKinds := [.data, .data, .data], laidTests := true, laidLooks := .later }
def NotationBackCardSaid : Prop := Claim7.holds Tryd.pinned (.plain (OpenSpec.ofChange notationBackSpec)) notationBackCard

/-- THE TIED CARD OF 'proctorlaw21.NotationOne'. -/
def notationOneCard : Claim7 := { stood := { row := notationOneRow, standIns := [], harness := (true, "e0bf22b1a529f00419162c4d4fd529bc0949f46b42efbedccd3d1d9e47ea51be"), looks := false }, kinds := [], alts := [], laidByText := true, laidKinds := [.data, .data, .data], laidTests := true, laidLooks := .later }
def NotationOneCardSaid : Prop := Claim7.holds Tryd.pinned (.plain (OpenSpec.ofChange notationOneSpec)) notationOneCard

/-- THE TIED CARD OF 'proctorlaw21.NotationLogs'. -/
def notationLogsCard : Claim7 := { stood := { row := notationLogsRow, standIns := [], harness := (true, "e0bf22b1a529f00419162c4d4fd529bc0949f46b42efbedccd3d1d9e47ea51be"), looks := false }, kinds := [], alts := [], laidByText := true, laidKinds := [.data, .data, .data], laidTests := true, laidLooks := .later }
def NotationLogsCardSaid : Prop := Claim7.holds Tryd.pinned (.plain (OpenSpec.ofChange notationLogsSpec)) notationLogsCard

/-- THE SECOND FORM's CARD OF 'proctorlaw21.NotationWords'. -/
def notationWordsUptoCard : Claim7 := { stood := { row := notationWordsUptoRow, standIns := [], harness := (true, "e0bf22b1a529f00419162c4d4fd529bc0949f46b42efbedccd3d1d9e47ea51be"), looks := false }, kinds := [], alts := [], laidByText := true, laidKinds := [.data, .data, .data], laidTests := true, laidLooks := .later }
def NotationWordsUptoCardSaid : Prop := Claim7.holds Tryd.pinned (.plain (OpenSpec.upto notationWordsSpec)) notationWordsUptoCard

/-- THE SECOND FORM's CARD OF 'proctorlaw21.NotationPrints'. -/
def notationPrintsUptoCard : Claim7 := { stood := { row := notationPrintsUptoRow, standIns := [], harness := (true, "e0bf22b1a529f00419162c4d4fd529bc0949f46b42efbedccd3d1d9e47ea51be"), looks := false }, kinds := [], alts := [], laidByText := true, laidKinds := [.data, .data, .data], laidTests := true, laidLooks := .later }
def NotationPrintsUptoCardSaid : Prop := Claim7.holds Tryd.pinned (.plain (OpenSpec.upto notationPrintsSpec)) notationPrintsUptoCard

/-- THE SECOND FORM's CARD OF 'proctorlaw21.NotationParses'. -/
def notationParsesUptoCard : Claim7 := { stood := { row := notationParsesUptoRow, standIns := [], harness := (true, "e0bf22b1a529f00419162c4d4fd529bc0949f46b42efbedccd3d1d9e47ea51be"), looks := false }, kinds := [], alts := [], laidByText := true, laidKinds := [.data, .data, .data], laidTests := true, laidLooks := .later }
def NotationParsesUptoCardSaid : Prop := Claim7.holds Tryd.pinned (.plain (OpenSpec.upto notationParsesSpec)) notationParsesUptoCard

/-- THE SECOND FORM's CARD OF 'proctorlaw21.NotationBack'. -/
def notationBackUptoCard : Claim7 := { stood := { row := notationBackUptoRow, standIns := [], harness := (true, "e0bf22b1a529f00419162c4d4fd529bc0949f46b42efbedccd3d1d9e47ea51be"), looks := false }, kinds := [], alts := [], laidByText := true, laidKinds := [.data, .data, .data], laidTests := true, laidLooks := .later }
def NotationBackUptoCardSaid : Prop := Claim7.holds Tryd.pinned (.plain (OpenSpec.upto notationBackSpec)) notationBackUptoCard

/-- THE SECOND FORM's CARD OF 'proctorlaw21.NotationOne'. -/
def notationOneUptoCard : Claim7 := { stood := { row := notationOneUptoRow, standIns := [], harness := (true, "e0bf22b1a529f00419162c4d4fd529bc0949f46b42efbedccd3d1d9e47ea51be"), looks := false }, kinds := [], alts := [], laidByText := true, laidKinds := [.data, .data, .data], laidTests := true, laidLooks := .later }
def NotationOneUptoCardSaid : Prop := Claim7.holds Tryd.pinned (.plain (OpenSpec.upto notationOneSpec)) notationOneUptoCard

/-- THE SECOND FORM's CARD OF 'proctorlaw21.NotationLogs'. -/
def notationLogsUptoCard : Claim7 := { stood := { row := notationLogsUptoRow, standIns := [], harness := (true, "e0bf22b1a529f00419162c4d4fd529bc0949f46b42efbedccd3d1d9e47ea51be"), looks := false }, kinds := [], alts := [], laidByText := true, laidKinds := [.data, .data, .data], laidTests := true, laidLooks := .later }
def NotationLogsUptoCardSaid : Prop := Claim7.holds Tryd.pinned (.plain (OpenSpec.upto notationLogsSpec)) notationLogsUptoCard
end Rows
end Go.Proofs.YtfcemkmefnackaaDoor
