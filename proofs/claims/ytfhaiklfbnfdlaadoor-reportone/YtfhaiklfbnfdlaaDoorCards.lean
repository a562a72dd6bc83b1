/-
  DERIVED. GIVEN WITH THE SEED: THE CARDS: each row of YtfhaiklfbnfdlaaDoorRows.lean that lists a variable, with what it lists TIED to the program's text (the seventh form; the later family's looks); each row that meets fmt, with fmt's text TOLD by the authors' own Lean function (tested against real Go, not proved from fmt's source: count such statements apart). THE CARD IS WHAT COUNTS. Prove the row's statement (the work); the ties are given (YtfhaiklfbnfdlaaDoorTie.lean); close each card by the builder's one call (the guide's Derived/Test/ToyasCard.lean, 'card_holds'). Laid BY PROGRAM, IN A SANDBOX (cutbox-door.mjs). By AI agents, Wed Nov 11 2026. No macro, syntax, notation, axiom, sorry.
-/
import Derived.Test.YtfhaiklfbnfdlaaDoorRows
import GoSem.ClaimSeven
namespace Go.Proofs.YtfhaiklfbnfdlaaDoor
namespace Rows

/-- THE TIED CARD OF 'proctorlaw22.ReportRenders'. -/
def reportRendersCard : Claim7 := { stood := { row := reportRendersRow, standIns := [], harness := (true, "e233efbd8281c00bb15752c168416a4d292522d35ea995e22f9a873ad7ac4612"), looks := false }, kinds := [], alts := [], laidByText := true, laidKinds := [.data, .data, .data, .data, .data], laidTests := true, laidLooks := .later }
def ReportRendersCardSaid : Prop := Claim7.holds Tryd.pinned (.plain (OpenSpec.ofChange reportRendersSpec)) reportRendersCard

/-- THE TIED CARD OF 'proctorlaw22.ReportParses'. -/
def reportParsesCard : Claim7 := { stood := { row := reportParsesRow, standIns := [], harness := (true, "e233efbd8281c00bb15752c168416a4d292522d35ea995e22f9a873ad7ac4612"), looks := false }, kinds := [], alts := [], laidByText := true, laidKinds := [.data, .data, .data, .data, .data], laidTests := true, laidLooks := .later }
def ReportParsesCardSaid : Prop := Claim7.holds Tryd.pinned (.plain (OpenSpec.ofChange reportParsesSpec)) reportParsesCard

/-- THE TIED CARD OF 'proctorlaw22.ReportBack'. -/
def reportBackCard : Claim7 := { stood := { row := reportBackRow, standIns := [], harness := (true, "e233efbd8281c00bb15752c168416a4d292522d35ea995e22f9a873ad7ac4612"), looks := false }, kinds := [], alts := [], laidByText := true, laidKinds := [.data, .data, .data, .data, .data], laidTests := true, laidLooks := .later }
def ReportBackCardSaid : Prop := Claim7.holds Tryd.pinned (.plain (OpenSpec.ofChange reportBackSpec)) reportBackCard

/-- THE TIED CARD OF 'proctorlaw22.ReportOne'. -/
def reportOneCard : Claim7 := { stood := { row := reportOneRow, standIns := [], harness := (true, "e233efbd8281c00bb15752c168416a4d292522d35ea995e22f9a873ad7ac4612"), looks := false }, kinds := [], alts := [], laidByText := true, laidKinds := [.data, .data, .data, .data, .data], laidTests := true, laidLooks := .later }
def ReportOneCardSaid : Prop := Claim7.holds Tryd.pinned (.plain (OpenSpec.ofChange reportOneSpec)) reportOneCard

/-- THE TIED CARD OF 'proctorlaw22.ReportList'. -/
def reportListCard : Claim7 := { stood := { row := reportListRow, standIns := [], harness := (true, "e233efbd8281c00bb15752c168416a4d292522d35ea995e22f9a873ad7ac4612"), looks := false }, kinds := [], alts := [], laidByText := true, laidKinds := [.data, .data, .data, .data, .data], laidTests := true, laidLooks := .later }
def ReportListCardSaid : Prop := Claim7.holds Tryd.pinned (.plain (OpenSpec.ofChange reportListSpec)) reportListCard

/-- THE TIED CARD OF 'proctorlaw22.ReportKinds'. -/
def reportKindsCard : Claim7 := { stood := { row := reportKindsRow, standIns := [], harness := (true, "e233efbd8281c00bb15752c168416a4d292522d35ea995e22f9a873ad7ac4612"), looks := false }, kinds := [], alts := [], laidByText := true, laidKinds := [.data, .data, .data, .data, .data], laidTests := true, laidLooks := .later }
def ReportKindsCardSaid : Prop := Claim7.holds Tryd.pinned (.plain (OpenSpec.ofChange reportKindsSpec)) reportKindsCard

/-- THE SECOND FORM's CARD OF 'proctorlaw22.ReportRenders'. -/
def reportRendersUptoCard : Claim7 := { stood := { row := reportRendersUptoRow, standIns := [], harness := (true, "e233efbd8281c00bb15752c168416a4d292522d35ea995e22f9a873ad7ac4612"), looks := false }, kinds := [], alts := [], laidByText := true, laidKinds := [.data, .data, .data, .data, .data], laidTests := true, laidLooks := .later }
def ReportRendersUptoCardSaid : Prop := Claim7.holds Tryd.pinned (.plain (OpenSpec.upto reportRendersSpec)) reportRendersUptoCard

/-- THE SECOND FORM's CARD OF 'proctorlaw22.ReportParses'. -/
def reportParsesUptoCard : Claim7 := { stood := { row := reportParsesUptoRow, standIns := [], harness := (true, "e233efbd8281c00bb15752c168416a4d292522d35ea995e22f9a873ad7ac4612"), looks := false }, kinds := [], alts := [], laidByText := true, laidKinds := [.data, .data, .data, .data, .data], laidTests := true, laidLooks := .later }
def ReportParsesUptoCardSaid : Prop := Claim7.holds Tryd.pinned (.plain (OpenSpec.upto reportParsesSpec)) reportParsesUptoCard

/-- THE SECOND FORM's CARD OF 'proctorlaw22.ReportBack'. -/
def reportBackUptoCard : Claim7 := { stood := { row := reportBackUptoRow, standIns := [], harness := (true, "e233efbd8281c00bb15752c168416a4d292522d35ea995e22f9a873ad7ac4612"), looks := false }, kinds := [], alts := [], laidByText := true, laidKinds := [.data, .data, .data, .data, .data], laidTests := true, laidLooks := .later }
def ReportBackUptoCardSaid : Prop := Claim7.holds Tryd.pinned (.plain (OpenSpec.upto reportBackSpec)) reportBackUptoCard

/-- THE SECOND FORM's CARD OF 'proctorlaw22.ReportOne'. -/
def reportOneUptoCard : Claim7 := { stood := { row := reportOneUptoRow, standIns := [], harness := (true, "e233efbd8281c00bb15752c168416a4d292522d35ea995e22f9a873ad7ac4612"), looks := false }, kinds := [], alts := [], laidByText := true, laidKinds := [.data, .data, .data, .data, .data], laidTests := true, laidLooks := .later }
def ReportOneUptoCardSaid : Prop := Claim7.holds Tryd.pinned (.plain (OpenSpec.upto reportOneSpec)) reportOneUptoCard

/-- THE SECOND FORM's CARD OF 'proctorlaw22.ReportList'. -/
def reportListUptoCard : Claim7 := { stood := { row := reportListUptoRow, standIns := [], harness := (true, "e233efbd8281c00bb15752c168416a4d292522d35ea995e22f9a873ad7ac4612"), looks := false }, kinds := [], alts := [], laidByText := true, laidKinds := [.data, .data, .data, .data, .data], laidTests := true, laidLooks := .later }
def ReportListUptoCardSaid : Prop := Claim7.holds Tryd.pinned (.plain (OpenSpec.upto reportListSpec)) reportListUptoCard

/-- THE SECOND FORM's CARD OF 'proctorlaw22.ReportKinds'. -/
def reportKindsUptoCard : Claim7 := { stood := { row := reportKindsUptoRow, standIns := [], harness := (true, "e233efbd8281c00bb15752c168416a4d292522d35ea995e22f9a873ad7ac4612"), looks := false }, kinds := [], alts := [], laidByText := true, laidKinds := [.data, .data, .data, .data, .data], laidTests := true, laidLooks := .later }
def ReportKindsUptoCardSaid : Prop := Claim7.holds Tryd.pinned (.plain (OpenSpec.upto reportKindsSpec)) reportKindsUptoCard
end Rows
end Go.Proofs.YtfhaiklfbnfdlaaDoor
