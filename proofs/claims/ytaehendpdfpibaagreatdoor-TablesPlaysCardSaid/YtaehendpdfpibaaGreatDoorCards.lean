/-
  DERIVED. GIVEN WITH THE SEED: THE CARDS: each row of YtaehendpdfpibaaGreatDoorRows.lean that lists a variable, with what it lists TIED to the program's text (the seventh form; the later family's looks); each row that meets fmt, with fmt's text TOLD by the authors' own Lean function (tested against real Go, not proved from fmt's source: count such statements apart). THE CARD IS WHAT COUNTS. Prove the row's statement (the work); the ties are given (YtaehendpdfpibaaGreatDoorTie.lean); close each card by the builder's one call (the guide's Derived/Test/ToyasCard.lean, 'card_holds'). Laid BY PROGRAM, IN A SANDBOX (cutbox-door.mjs). By AI agents, Wed Nov 11 2026. No macro, syntax, notation, axiom, sorry.
-/
import Derived.Test.YtaehendpdfpibaaGreatDoorRows
import GoSem.ClaimSeven
namespace Go.Proofs.YtaehendpdfpibaaGreatDoor
namespace Rows

/-- THE TIED CARD OF 'paddocklaw08.TablesPlays'. -/
def tablesPlaysCard : Claim7 := { stood := { row := tablesPlaysRow, standIns := [], harness := (true, "1749cd0ef4d94fa390e308fd55b6770c23297adaee7b3ed903832f3721db89d2"), looks := true }, kinds := [], alts := [], laidByText := true, laidKinds := [.data, .sentinel, .sentinel, .sentinel, .sentinel, .sentinel, .sentinel, .sentinel, .sentinel, .sentinel, .sentinel], laidTests := true, laidLooks := .later }
def TablesPlaysCardSaid : Prop := Claim7.holds Tryz.pinned (.plain (OpenSpec.ofChange tablesPlaysSpec)) tablesPlaysCard

/-- THE TIED CARD OF 'paddocklaw09.QueryAnswers'. -/
def queryAnswersCard : Claim7 := { stood := { row := queryAnswersRow, standIns := [], harness := (true, "1749cd0ef4d94fa390e308fd55b6770c23297adaee7b3ed903832f3721db89d2"), looks := true }, kinds := [], alts := [], laidByText := true, laidKinds := [.data, .sentinel, .sentinel, .sentinel, .sentinel, .sentinel, .sentinel], laidTests := true, laidLooks := .later }
def QueryAnswersCardSaid : Prop := Claim7.holds Tryz.pinned (.plain (OpenSpec.ofChange queryAnswersSpec)) queryAnswersCard

/-- THE TIED CARD OF 'paddocklaw09.QueryBoth'. -/
def queryBothCard : Claim7 := { stood := { row := queryBothRow, standIns := [], harness := (true, "1749cd0ef4d94fa390e308fd55b6770c23297adaee7b3ed903832f3721db89d2"), looks := true }, kinds := [], alts := [], laidByText := true, laidKinds := [.data, .sentinel, .sentinel, .sentinel, .sentinel, .sentinel, .sentinel], laidTests := true, laidLooks := .later }
def QueryBothCardSaid : Prop := Claim7.holds Tryz.pinned (.plain (OpenSpec.ofChange queryBothSpec)) queryBothCard

/-- THE TIED CARD OF 'paddocklaw09.QueryHalves'. -/
def queryHalvesCard : Claim7 := { stood := { row := queryHalvesRow, standIns := [], harness := (true, "1749cd0ef4d94fa390e308fd55b6770c23297adaee7b3ed903832f3721db89d2"), looks := true }, kinds := [], alts := [], laidByText := true, laidKinds := [.data, .sentinel, .sentinel, .sentinel, .sentinel, .sentinel, .sentinel], laidTests := true, laidLooks := .later }
def QueryHalvesCardSaid : Prop := Claim7.holds Tryz.pinned (.plain (OpenSpec.ofChange queryHalvesSpec)) queryHalvesCard

/-- THE TIED CARD OF 'paddocklaw09.QueryNarrows'. -/
def queryNarrowsCard : Claim7 := { stood := { row := queryNarrowsRow, standIns := [], harness := (true, "1749cd0ef4d94fa390e308fd55b6770c23297adaee7b3ed903832f3721db89d2"), looks := true }, kinds := [], alts := [], laidByText := true, laidKinds := [.data, .sentinel, .sentinel, .sentinel, .sentinel, .sentinel, .sentinel], laidTests := true, laidLooks := .later }
def QueryNarrowsCardSaid : Prop := Claim7.holds Tryz.pinned (.plain (OpenSpec.ofChange queryNarrowsSpec)) queryNarrowsCard

/-- THE SECOND FORM's CARD OF 'paddocklaw08.TablesPlays'. -/
def tablesPlaysUptoCard : Claim7 := { stood := { row := tablesPlaysUptoRow, standIns := [], harness := (true, "1749cd0ef4d94fa390e308fd55b6770c23297adaee7b3ed903832f3721db89d2"), looks := true }, kinds := [], alts := [], laidByText := true, laidKinds := [.data, .sentinel, .sentinel, .sentinel, .sentinel, .sentinel, .sentinel, .sentinel, .sentinel, .sentinel, .sentinel], laidTests := true, laidLooks := .later }
def TablesPlaysUptoCardSaid : Prop := Claim7.holds Tryz.pinned (.plain (OpenSpec.upto tablesPlaysSpec)) tablesPlaysUptoCard

/-- THE SECOND FORM's CARD OF 'paddocklaw09.QueryAnswers'. -/
def queryAnswersUptoCard : Claim7 := { stood := { row := queryAnswersUptoRow, standIns := [], harness := (true, "1749cd0ef4d94fa390e308fd55b6770c23297adaee7b3ed903832f3721db89d2"), looks := true }, kinds := [], alts := [], laidByText := true, laidKinds := [.data, .sentinel, .sentinel, .sentinel, .sentinel, .sentinel, .sentinel], laidTests := true, laidLooks := .later }
def QueryAnswersUptoCardSaid : Prop := Claim7.holds Tryz.pinned (.plain (OpenSpec.upto queryAnswersSpec)) queryAnswersUptoCard

/-- THE SECOND FORM's CARD OF 'paddocklaw09.QueryBoth'. -/
def queryBothUptoCard : Claim7 := { stood := { row := queryBothUptoRow, standIns := [], harness := (true, "1749cd0ef4d94fa390e308fd55b6770c23297adaee7b3ed903832f3721db89d2"), looks := true }, kinds := [], alts := [], laidByText := true, laidKinds := [.data, .sentinel, .sentinel, .sentinel, .sentinel, .sentinel, .sentinel], laidTests := true, laidLooks := .later }
def QueryBothUptoCardSaid : Prop := Claim7.holds Tryz.pinned (.plain (OpenSpec.upto queryBothSpec)) queryBothUptoCard

/-- THE SECOND FORM's CARD OF 'paddocklaw09.QueryHalves'. -/
def queryHalvesUptoCard : Claim7 := { stood := { row := queryHalvesUptoRow, standIns := [], harness := (true, "1749cd0ef4d94fa390e308fd55b6770c23297adaee7b3ed903832f3721db89d2"), looks := true }, kinds := [], alts := [], laidByText := true, laidKinds := [.data, .sentinel, .sentinel, .sentinel, .sentinel, .sentinel, .sentinel], laidTests := true, laidLooks := .later }
def QueryHalvesUptoCardSaid : Prop := Claim7.holds Tryz.pinned (.plain (OpenSpec.upto queryHalvesSpec)) queryHalvesUptoCard

/-- THE SECOND FORM's CARD OF 'paddocklaw09.QueryNarrows'. -/
def queryNarrowsUptoCard : Claim7 := { stood := { row := queryNarrowsUptoRow, standIns := [], harness := (true, "1749cd0ef4d94fa390e308fd55b6770c23297adaee7b3ed903832f3721db89d2"), looks := true }, kinds := [], alts := [], laidByText := true, laidKinds := [.data, .sentinel, .sentinel, .sentinel, .sentinel, .sentinel, .sentinel], laidTests := true, laidLooks := .later }
def QueryNarrowsUptoCardSaid : Prop := Claim7.holds Tryz.pinned (.plain (OpenSpec.upto queryNarrowsSpec)) queryNarrowsUptoCard
end Rows
end Go.Proofs.YtaehendpdfpibaaGreatDoor
