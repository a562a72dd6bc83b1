/-
  DERIVED. GIVEN WITH THE SEED: THE CARDS: each row of YtbhihmkgimdjpaaDoorRows.lean that lists a variable, with what it lists TIED to the program's text (the seventh form; the later family's looks); each row that meets fmt, with fmt's text TOLD by the authors' own Lean function (tested against real Go, not proved from fmt's source: count such statements apart). THE CARD IS WHAT COUNTS. Prove the row's statement (the work); the ties are given (YtbhihmkgimdjpaaDoorTie.lean); close each card by the builder's one call (the guide's Derived/Test/ToyasCard.lean, 'card_holds'). Laid BY PROGRAM, IN A SANDBOX (cutbox-door.mjs). By AI agents, Wed Nov 11 2026. No macro, syntax, notation, axiom, sorry.
-/
import Derived.Test.YtbhihmkgimdjpaaDoorRows
import GoSem.ClaimSeven
namespace Go.Proofs.YtbhihmkgimdjpaaDoor
namespace Rows

/-- THE TIED CARD OF 'proctorlaw19.GraphPlays'. -/
def graphPlaysCard : Claim7 := { stood := { row := graphPlaysRow, standIns := [], harness := (true, "3137cc41232cda745574434a0e615b5009d4b16f142fed3ed7762b6a01561838"), looks := false }, kinds := [], alts := [], laidByText := true, laidKinds := [.data], laidTests := true, laidLooks := .later }
def GraphPlaysCardSaid : Prop := Claim7.holds Tryd.pinned (.plain (OpenSpec.ofChange graphPlaysSpec)) graphPlaysCard

/-- THE TIED CARD OF 'proctorlaw19.GraphPath'. -/
def graphPathCard : Claim7 := { stood := { row := graphPathRow, standIns := [], harness := (true, "3137cc41232cda745574434a0e615b5009d4b16f142fed3ed7762b6a01561838"), looks := false }, kinds := [], alts := [], laidByText := true, laidKinds := [.data], laidTests := true, laidLooks := .later }
def GraphPathCardSaid : Prop := Claim7.holds Tryd.pinned (.plain (OpenSpec.ofChange graphPathSpec)) graphPathCard

/-- THE TIED CARD OF 'proctorlaw19.GraphGroups'. -/
def graphGroupsCard : Claim7 := { stood := { row := graphGroupsRow, standIns := [], harness := (true, "3137cc41232cda745574434a0e615b5009d4b16f142fed3ed7762b6a01561838"), looks := false }, kinds := [], alts := [], laidByText := true, laidKinds := [.data], laidTests := true, laidLooks := .later }
def GraphGroupsCardSaid : Prop := Claim7.holds Tryd.pinned (.plain (OpenSpec.ofChange graphGroupsSpec)) graphGroupsCard

/-- THE TIED CARD OF 'proctorlaw19.GraphOrder'. -/
def graphOrderCard : Claim7 := { stood := { row := graphOrderRow, standIns := [], harness := (true, "3137cc41232cda745574434a0e615b5009d4b16f142fed3ed7762b6a01561838"), looks := false }, kinds := [], alts := [], laidByText := true, laidKinds := [.data], laidTests := true, laidLooks := .later }
def GraphOrderCardSaid : Prop := Claim7.holds Tryd.pinned (.plain (OpenSpec.ofChange graphOrderSpec)) graphOrderCard

/-- THE TIED CARD OF 'proctorlaw19.GraphOnce'. -/
def graphOnceCard : Claim7 := { stood := { row := graphOnceRow, standIns := [], harness := (true, "3137cc41232cda745574434a0e615b5009d4b16f142fed3ed7762b6a01561838"), looks := false }, kinds := [], alts := [], laidByText := true, laidKinds := [.data], laidTests := true, laidLooks := .later }
def GraphOnceCardSaid : Prop := Claim7.holds Tryd.pinned (.plain (OpenSpec.ofChange graphOnceSpec)) graphOnceCard

/-- THE TIED CARD OF 'proctorlaw19.GraphFull'. -/
def graphFullCard : Claim7 := { stood := { row := graphFullRow, standIns := [], harness := (true, "3137cc41232cda745574434a0e615b5009d4b16f142fed3ed7762b6a01561838"), looks := false }, kinds := [], alts := [], laidByText := true, laidKinds := [.data], laidTests := true, laidLooks := .later }
def GraphFullCardSaid : Prop := Claim7.holds Tryd.pinned (.plain (OpenSpec.ofChange graphFullSpec)) graphFullCard

/-- THE SECOND FORM's CARD OF 'proctorlaw19.GraphPlays'. -/
def graphPlaysUptoCard : Claim7 := { stood := { row := graphPlaysUptoRow, standIns := [], harness := (true, "3137cc41232cda745574434a0e615b5009d4b16f142fed3ed7762b6a01561838"), looks := false }, kinds := [], alts := [], laidByText := true, laidKinds := [.data], laidTests := true, laidLooks := .later }
def GraphPlaysUptoCardSaid : Prop := Claim7.holds Tryd.pinned (.plain (OpenSpec.upto graphPlaysSpec)) graphPlaysUptoCard

/-- THE SECOND FORM's CARD OF 'proctorlaw19.GraphPath'. -/
def graphPathUptoCard : Claim7 := { stood := { row := graphPathUptoRow, standIns := [], harness := (true, "3137cc41232cda745574434a0e615b5009d4b16f142fed3ed7762b6a01561838"), looks := false }, kinds := [], alts := [], laidByText := true, laidKinds := [.data], laidTests := true, laidLooks := .later }
def GraphPathUptoCardSaid : Prop := Claim7.holds Tryd.pinned (.plain (OpenSpec.upto graphPathSpec)) graphPathUptoCard

/-- THE SECOND FORM's CARD OF 'proctorlaw19.GraphGroups'. -/
def graphGroupsUptoCard : Claim7 := { stood := { row := graphGroupsUptoRow, standIns := [], harness := (true, "3137cc41232cda745574434a0e615b5009d4b16f142fed3ed7762b6a01561838"), looks := false }, kinds := [], alts := [], laidByText := true, laidKinds := [.data], laidTests := true, laidLooks := .later }
def GraphGroupsUptoCardSaid : Prop := Claim7.holds Tryd.pinned (.plain (OpenSpec.upto graphGroupsSpec)) graphGroupsUptoCard

/-- THE SECOND FORM's CARD OF 'proctorlaw19.GraphOrder'. -/
def graphOrderUptoCard : Claim7 := { stood := { row := graphOrderUptoRow, standIns := [], harness := (true, "3137cc41232cda745574434a0e615b5009d4b16f142fed3ed7762b6a01561838"), looks := false }, kinds := [], alts := [], laidByText := true, laidKinds := [.data], laidTests := true, laidLooks := .later }
def GraphOrderUptoCardSaid : Prop := Claim7.holds Tryd.pinned (.plain (OpenSpec.upto graphOrderSpec)) graphOrderUptoCard

/-- THE SECOND FORM's CARD OF 'proctorlaw19.GraphOnce'. -/
def graphOnceUptoCard : Claim7 := { stood := { row := graphOnceUptoRow, standIns := [], harness := (true, "3137cc41232cda745574434a0e615b5009d4b16f142fed3ed7762b6a01561838"), looks := false }, kinds := [], alts := [], laidByText := true, laidKinds := [.data], laidTests := true, laidLooks := .later }
def GraphOnceUptoCardSaid : Prop := Claim7.holds Tryd.pinned (.plain (OpenSpec.upto graphOnceSpec)) graphOnceUptoCard

/-- THE SECOND FORM's CARD OF 'proctorlaw19.GraphFull'. -/
def graphFullUptoCard : Claim7 := { stood := { row := graphFullUptoRow, standIns := [], harness := (true, "3137cc41232cda745574434a0e615b5009d4b16f142fed3ed7762b6a01561838"), looks := false }, kinds := [], alts := [], laidByText := true, laidKinds := [.data], laidTests := true, laidLooks := .later }
def GraphFullUptoCardSaid : Prop := Claim7.holds Tryd.pinned (.plain (OpenSpec.upto graphFullSpec)) graphFullUptoCard
end Rows
end Go.Proofs.YtbhihmkgimdjpaaDoor
