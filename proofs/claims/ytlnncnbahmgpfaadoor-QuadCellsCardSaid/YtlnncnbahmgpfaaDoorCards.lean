/-
  DERIVED. GIVEN WITH THE SEED: THE CARDS: each row of YtlnncnbahmgpfaaDoorRows.lean that lists a variable, with what it lists TIED to the program's text (the seventh form; the later family's looks); each row that meets fmt, with fmt's text TOLD by the authors' own Lean function (tested against real Go, not proved from fmt's source: count such statements apart). THE CARD IS WHAT COUNTS. Prove the row's statement (the work); the ties are given (YtlnncnbahmgpfaaDoorTie.lean); close each card by the builder's one call (the guide's Derived/Test/ToyasCard.lean, 'card_holds'). Laid BY PROGRAM, IN A SANDBOX (cutbox-door.mjs). By AI agents, Wed Nov 11 2026. No macro, syntax, notation, axiom, sorry.
-/
import Derived.Test.YtlnncnbahmgpfaaDoorRows
import GoSem.ClaimSeven
namespace Go.Proofs.YtlnncnbahmgpfaaDoor
namespace Rows

/-- THE TIED CARD OF 'paddocklaw12.QuadCells'. -/
def quadCellsCard : Claim7 := { stood := { row := quadCellsRow, standIns := [], harness := (true, "bd18aac8b9d076d325920714d65319ffd1e50a44f1682c8cc80138505147e53a"), looks := true }, kinds := [], alts := [], laidByText := true, laidKinds := [.sentinel, .sentinel, .sentinel, .sentinel, .sentinel, .sentinel, .sentinel, .sentinel, .sentinel, .sentinel], laidTests := true, laidLooks := .later }
def QuadCellsCardSaid : Prop := Claim7.holds Tryd.pinned (.plain (OpenSpec.ofChange quadCellsSpec)) quadCellsCard

/-- THE TIED CARD OF 'paddocklaw12.QuadLoose'. -/
def quadLooseCard : Claim7 := { stood := { row := quadLooseRow, standIns := [], harness := (true, "bd18aac8b9d076d325920714d65319ffd1e50a44f1682c8cc80138505147e53a"), looks := true }, kinds := [], alts := [], laidByText := true, laidKinds := [.sentinel, .sentinel, .sentinel, .sentinel, .sentinel, .sentinel, .sentinel, .sentinel, .sentinel, .sentinel], laidTests := true, laidLooks := .later }
def QuadLooseCardSaid : Prop := Claim7.holds Tryd.pinned (.plain (OpenSpec.ofChange quadLooseSpec)) quadLooseCard

/-- THE TIED CARD OF 'paddocklaw12.QuadWalks'. -/
def quadWalksCard : Claim7 := { stood := { row := quadWalksRow, standIns := [], harness := (true, "bd18aac8b9d076d325920714d65319ffd1e50a44f1682c8cc80138505147e53a"), looks := true }, kinds := [], alts := [], laidByText := true, laidKinds := [.sentinel, .sentinel, .sentinel], laidTests := true, laidLooks := .later }
def QuadWalksCardSaid : Prop := Claim7.holds Tryd.pinned (.plain (OpenSpec.ofChange quadWalksSpec)) quadWalksCard

/-- THE TIED CARD OF 'paddocklaw12.QuadAgain'. -/
def quadAgainCard : Claim7 := { stood := { row := quadAgainRow, standIns := [], harness := (true, "bd18aac8b9d076d325920714d65319ffd1e50a44f1682c8cc80138505147e53a"), looks := true }, kinds := [], alts := [], laidByText := true, laidKinds := [.sentinel, .sentinel, .sentinel], laidTests := true, laidLooks := .later }
def QuadAgainCardSaid : Prop := Claim7.holds Tryd.pinned (.plain (OpenSpec.ofChange quadAgainSpec)) quadAgainCard

/-- THE TIED CARD OF 'paddocklaw12.QuadAll'. -/
def quadAllCard : Claim7 := { stood := { row := quadAllRow, standIns := [], harness := (true, "bd18aac8b9d076d325920714d65319ffd1e50a44f1682c8cc80138505147e53a"), looks := true }, kinds := [], alts := [], laidByText := true, laidKinds := [.sentinel, .sentinel, .sentinel], laidTests := true, laidLooks := .later }
def QuadAllCardSaid : Prop := Claim7.holds Tryd.pinned (.plain (OpenSpec.ofChange quadAllSpec)) quadAllCard

/-- THE SECOND FORM's CARD OF 'paddocklaw12.QuadCells'. -/
def quadCellsUptoCard : Claim7 := { stood := { row := quadCellsUptoRow, standIns := [], harness := (true, "bd18aac8b9d076d325920714d65319ffd1e50a44f1682c8cc80138505147e53a"), looks := true }, kinds := [], alts := [], laidByText := true, laidKinds := [.sentinel, .sentinel, .sentinel, .sentinel, .sentinel, .sentinel, .sentinel, .sentinel, .sentinel, .sentinel], laidTests := true, laidLooks := .later }
def QuadCellsUptoCardSaid : Prop := Claim7.holds Tryd.pinned (.plain (OpenSpec.upto quadCellsSpec)) quadCellsUptoCard

/-- THE SECOND FORM's CARD OF 'paddocklaw12.QuadLoose'. -/
def quadLooseUptoCard : Claim7 := { stood := { row := quadLooseUptoRow, standIns := [], harness := (true, "bd18aac8b9d076d325920714d65319ffd1e50a44f1682c8cc80138505147e53a"), looks := true }, kinds := [], alts := [], laidByText := true, laidKinds := [.sentinel, .sentinel, .sentinel, .sentinel, .sentinel, .sentinel, .sentinel, .sentinel, .sentinel, .sentinel], laidTests := true, laidLooks := .later }
def QuadLooseUptoCardSaid : Prop := Claim7.holds Tryd.pinned (.plain (OpenSpec.upto quadLooseSpec)) quadLooseUptoCard

/-- THE SECOND FORM's CARD OF 'paddocklaw12.QuadWalks'. -/
def quadWalksUptoCard : Claim7 := { stood := { row := quadWalksUptoRow, standIns := [], harness := (true, "bd18aac8b9d076d325920714d65319ffd1e50a44f1682c8cc80138505147e53a"), looks := true }, kinds := [], alts := [], laidByText := true, laidKinds := [.sentinel, .sentinel, .sentinel], laidTests := true, laidLooks := .later }
def QuadWalksUptoCardSaid : Prop := Claim7.holds Tryd.pinned (.plain (OpenSpec.upto quadWalksSpec)) quadWalksUptoCard

/-- THE SECOND FORM's CARD OF 'paddocklaw12.QuadAgain'. -/
def quadAgainUptoCard : Claim7 := { stood := { row := quadAgainUptoRow, standIns := [], harness := (true, "bd18aac8b9d076d325920714d65319ffd1e50a44f1682c8cc80138505147e53a"), looks := true }, kinds := [], alts := [], laidByText := true, laidKinds := [.sentinel, .sentinel, .sentinel], laidTests := true, laidLooks := .later }
def QuadAgainUptoCardSaid : Prop := Claim7.holds Tryd.pinned (.plain (OpenSpec.upto quadAgainSpec)) quadAgainUptoCard

/-- THE SECOND FORM's CARD OF 'paddocklaw12.QuadAll'. -/
def quadAllUptoCard : Claim7 := { stood := { row := quadAllUptoRow, standIns := [], harness := (true, "bd18aac8b9d076d325920714d65319ffd1e50a44f1682c8cc80138505147e53a"), looks := true }, kinds := [], alts := [], laidByText := true, laidKinds := [.sentinel, .sentinel, .sentinel], laidTests := true, laidLooks := .later }
def QuadAllUptoCardSaid : Prop := Claim7.holds Tryd.pinned (.plain (OpenSpec.upto quadAllSpec)) quadAllUptoCard
end Rows
end Go.Proofs.YtlnncnbahmgpfaaDoor
