/-
  DERIVED. GIVEN WITH THE SEED: THE CARDS: each row of YtlldgibpajbabaaDoorRows.lean that lists a variable, with what it lists TIED to the program's text (the seventh form; the later family's looks); each row that meets fmt, with fmt's text TOLD by the authors' own Lean function (tested against real Go, not proved from fmt's source: count such statements apart). THE CARD IS WHAT COUNTS. Prove the row's statement (the work); the ties are given (YtlldgibpajbabaaDoorTie.lean); close each card by the builder's one call (the guide's Derived/Test/ToyasCard.lean, 'card_holds'). Laid BY PROGRAM, IN A SANDBOX (cutbox-door.mjs). By AI agents, Wed Nov 11 2026. No macro, syntax, notation, axiom, sorry.
-/
import Derived.Test.YtlldgibpajbabaaDoorRows
import GoSem.ClaimSeven
namespace Go.Proofs.YtlldgibpajbabaaDoor
namespace Rows

/-- THE TIED CARD OF 'proctorlaw21.NotationParses'. -/
def notationParsesCard : Claim7 := { stood := { row := notationParsesRow, standIns := [], harness := (true, "455af6bc07ad8a5c27ee7ee3b671a7500782446d311b4babd8e8401978bba392"), looks := false }, kinds := [], alts := [], laidByText := true, laidKinds := [.data, .data, .data], laidTests := true, laidLooks := .later }
def NotationParsesCardSaid : Prop := Claim7.holds Tryd.pinned (.plain (OpenSpec.ofChange notationParsesSpec)) notationParsesCard

/-- THE TIED CARD OF 'proctorlaw21.NotationLogs'. -/
def notationLogsCard : Claim7 := { stood := { row := notationLogsRow, standIns := [], harness := (true, "455af6bc07ad8a5c27ee7ee3b671a7500782446d311b4babd8e8401978bba392"), looks := false }, kinds := [], alts := [], laidByText := true, laidKinds := [.data, .data, .data], laidTests := true, laidLooks := .later }
def NotationLogsCardSaid : Prop := Claim7.holds Tryd.pinned (.plain (OpenSpec.ofChange notationLogsSpec)) notationLogsCard

/-- THE TIED CARD OF 'proctorlaw21.NotationLines'. -/
def notationLinesCard : Claim7 := { stood := { row := notationLinesRow, standIns := [], harness := (true, "455af6bc07ad8a5c27ee7ee3b671a7500782446d311b4babd8e8401978bba392"), looks := false }, kinds := [], alts := [], laidByText := true, laidKinds := [.data, .data, .data], laidTests := true, laidLooks := .later }
def NotationLinesCardSaid : Prop := Claim7.holds Tryd.pinned (.plain (OpenSpec.ofChange notationLinesSpec)) notationLinesCard

/-- THE SECOND FORM's CARD OF 'proctorlaw21.NotationParses'. -/
def notationParsesUptoCard : Claim7 := { stood := { row := notationParsesUptoRow, standIns := [], harness := (true, "455af6bc07ad8a5c27ee7ee3b671a7500782446d311b4babd8e8401978bba392"), looks := false }, kinds := [], alts := [], laidByText := true, laidKinds := [.data, .data, .data], laidTests := true, laidLooks := .later }
def NotationParsesUptoCardSaid : Prop := Claim7.holds Tryd.pinned (.plain (OpenSpec.upto notationParsesSpec)) notationParsesUptoCard

/-- THE SECOND FORM's CARD OF 'proctorlaw21.NotationLogs'. -/
def notationLogsUptoCard : Claim7 := { stood := { row := notationLogsUptoRow, standIns := [], harness := (true, "455af6bc07ad8a5c27ee7ee3b671a7500782446d311b4babd8e8401978bba392"), looks := false }, kinds := [], alts := [], laidByText := true, laidKinds := [.data, .data, .data], laidTests := true, laidLooks := .later }
def NotationLogsUptoCardSaid : Prop := Claim7.holds Tryd.pinned (.plain (OpenSpec.upto notationLogsSpec)) notationLogsUptoCard

/-- THE SECOND FORM's CARD OF 'proctorlaw21.NotationLines'. -/
def notationLinesUptoCard : Claim7 := { stood := { row := notationLinesUptoRow, standIns := [], harness := (true, "455af6bc07ad8a5c27ee7ee3b671a7500782446d311b4babd8e8401978bba392"), looks := false }, kinds := [], alts := [], laidByText := true, laidKinds := [.data, .data, .data], laidTests := true, laidLooks := .later }
def NotationLinesUptoCardSaid : Prop := Claim7.holds Tryd.pinned (.plain (OpenSpec.upto notationLinesSpec)) notationLinesUptoCard
end Rows
end Go.Proofs.YtlldgibpajbabaaDoor
