/-
  DERIVED. GIVEN WITH THE SEED: THE CARDS: each row of YtfoagdnbegpjeaaDoorRows.lean that lists a variable, with what it lists TIED to the program's text (the seventh form; the later family's looks); each row that meets fmt, with fmt's text TOLD by the authors' own Lean function (tested against real Go, not proved from fmt's source: count such statements apart). THE CARD IS WHAT COUNTS. Prove the row's statement (the work); the ties are given (YtfoagdnbegpjeaaDoorTie.lean); close each card by the builder's one call (the guide's Derived/Test/ToyasCard.lean, 'card_holds'). Laid BY PROGRAM, IN A SANDBOX (cutbox-door.mjs). By AI agents, Wed Nov 11 2026. No macro, syntax, notation, axiom, sorry.
-/
import Derived.Test.YtfoagdnbegpjeaaDoorRows
import GoSem.ClaimSeven
namespace Go.Proofs.YtfoagdnbegpjeaaDoor
namespace Rows

/-- THE TIED CARD OF 'paddocklaw05.ColumnPlays'. -/
def columnPlaysCard : Claim7 := { stood := { row := columnPlaysRow, standIns := [], harness := (true, "88fa812c5d69bb530b7dd70abd64cefda5354af7dbb6a6d060986f6213e2695d"), looks := true }, kinds := [], alts := [], laidByText := true, laidKinds := [.sentinel, .sentinel, .sentinel, .sentinel, .sentinel, .sentinel, .sentinel, .sentinel, .sentinel, .sentinel], laidTests := true, laidLooks := .later }
def ColumnPlaysCardSaid : Prop := Claim7.holds Tryd.pinned (.plain (OpenSpec.ofChange columnPlaysSpec)) columnPlaysCard

/-- THE TIED CARD OF 'paddocklaw05.ColumnTexts'. -/
def columnTextsCard : Claim7 := { stood := { row := columnTextsRow, standIns := [], harness := (true, "88fa812c5d69bb530b7dd70abd64cefda5354af7dbb6a6d060986f6213e2695d"), looks := true }, kinds := [], alts := [], laidByText := true, laidKinds := [.sentinel, .sentinel], laidTests := true, laidLooks := .later }
def ColumnTextsCardSaid : Prop := Claim7.holds Tryd.pinned (.plain (OpenSpec.ofChange columnTextsSpec)) columnTextsCard

/-- THE TIED CARD OF 'paddocklaw05.ColumnFull'. -/
def columnFullCard : Claim7 := { stood := { row := columnFullRow, standIns := [], harness := (true, "88fa812c5d69bb530b7dd70abd64cefda5354af7dbb6a6d060986f6213e2695d"), looks := true }, kinds := [], alts := [], laidByText := true, laidKinds := [.sentinel, .sentinel], laidTests := true, laidLooks := .later }
def ColumnFullCardSaid : Prop := Claim7.holds Tryd.pinned (.plain (OpenSpec.ofChange columnFullSpec)) columnFullCard

/-- THE TIED CARD OF 'paddocklaw05.ColumnEmpties'. -/
def columnEmptiesCard : Claim7 := { stood := { row := columnEmptiesRow, standIns := [], harness := (true, "88fa812c5d69bb530b7dd70abd64cefda5354af7dbb6a6d060986f6213e2695d"), looks := true }, kinds := [], alts := [], laidByText := true, laidKinds := [.sentinel, .sentinel, .sentinel, .sentinel, .sentinel, .sentinel, .sentinel, .sentinel, .sentinel, .sentinel], laidTests := true, laidLooks := .later }
def ColumnEmptiesCardSaid : Prop := Claim7.holds Tryd.pinned (.plain (OpenSpec.ofChange columnEmptiesSpec)) columnEmptiesCard

/-- THE SECOND FORM's CARD OF 'paddocklaw05.ColumnPlays'. -/
def columnPlaysUptoCard : Claim7 := { stood := { row := columnPlaysUptoRow, standIns := [], harness := (true, "88fa812c5d69bb530b7dd70abd64cefda5354af7dbb6a6d060986f6213e2695d"), looks := true }, kinds := [], alts := [], laidByText := true, laidKinds := [.sentinel, .sentinel, .sentinel, .sentinel, .sentinel, .sentinel, .sentinel, .sentinel, .sentinel, .sentinel], laidTests := true, laidLooks := .later }
def ColumnPlaysUptoCardSaid : Prop := Claim7.holds Tryd.pinned (.plain (OpenSpec.upto columnPlaysSpec)) columnPlaysUptoCard

/-- THE SECOND FORM's CARD OF 'paddocklaw05.ColumnTexts'. -/
def columnTextsUptoCard : Claim7 := { stood := { row := columnTextsUptoRow, standIns := [], harness := (true, "88fa812c5d69bb530b7dd70abd64cefda5354af7dbb6a6d060986f6213e2695d"), looks := true }, kinds := [], alts := [], laidByText := true, laidKinds := [.sentinel, .sentinel], laidTests := true, laidLooks := .later }
def ColumnTextsUptoCardSaid : Prop := Claim7.holds Tryd.pinned (.plain (OpenSpec.upto columnTextsSpec)) columnTextsUptoCard

/-- THE SECOND FORM's CARD OF 'paddocklaw05.ColumnFull'. -/
def columnFullUptoCard : Claim7 := { stood := { row := columnFullUptoRow, standIns := [], harness := (true, "88fa812c5d69bb530b7dd70abd64cefda5354af7dbb6a6d060986f6213e2695d"), looks := true }, kinds := [], alts := [], laidByText := true, laidKinds := [.sentinel, .sentinel], laidTests := true, laidLooks := .later }
def ColumnFullUptoCardSaid : Prop := Claim7.holds Tryd.pinned (.plain (OpenSpec.upto columnFullSpec)) columnFullUptoCard

/-- THE SECOND FORM's CARD OF 'paddocklaw05.ColumnEmpties'. -/
def columnEmptiesUptoCard : Claim7 := { stood := { row := columnEmptiesUptoRow, standIns := [], harness := (true, "88fa812c5d69bb530b7dd70abd64cefda5354af7dbb6a6d060986f6213e2695d"), looks := true }, kinds := [], alts := [], laidByText := true, laidKinds := [.sentinel, .sentinel, .sentinel, .sentinel, .sentinel, .sentinel, .sentinel, .sentinel, .sentinel, .sentinel], laidTests := true, laidLooks := .later }
def ColumnEmptiesUptoCardSaid : Prop := Claim7.holds Tryd.pinned (.plain (OpenSpec.upto columnEmptiesSpec)) columnEmptiesUptoCard
end Rows
end Go.Proofs.YtfoagdnbegpjeaaDoor
