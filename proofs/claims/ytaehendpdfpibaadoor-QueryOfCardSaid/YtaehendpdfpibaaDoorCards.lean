/-
  DERIVED. GIVEN WITH THE SEED: THE CARDS: each row of YtaehendpdfpibaaDoorRows.lean that lists a variable, with what it lists TIED to the program's text (the seventh form; the later family's looks); each row that meets fmt, with fmt's text TOLD by the authors' own Lean function (tested against real Go, not proved from fmt's source: count such statements apart). THE CARD IS WHAT COUNTS. Prove the row's statement (the work); the ties are given (YtaehendpdfpibaaDoorTie.lean); close each card by the builder's one call (the guide's Derived/Test/ToyasCard.lean, 'card_holds'). Laid BY PROGRAM, IN A SANDBOX (cutbox-door.mjs). By AI agents, Wed Nov 11 2026. No macro, syntax, notation, axiom, sorry.
-/
import Derived.Test.YtaehendpdfpibaaDoorRows
import GoSem.ClaimSeven
namespace Go.Proofs.YtaehendpdfpibaaDoor
namespace Rows

/-- THE TIED CARD OF 'paddocklaw09.QueryOf'. -/
def queryOfCard : Claim7 := { stood := { row := queryOfRow, standIns := [], harness := (true, "a53b0b1de13a69fbc652cb3590a2b0da9e2ed1828b1840be30b70e1891eb8898"), looks := true }, kinds := [], alts := [], laidByText := true, laidKinds := [.sentinel, .sentinel, .sentinel, .sentinel, .sentinel, .sentinel, .sentinel, .sentinel, .sentinel, .sentinel], laidTests := true, laidLooks := .later }
def QueryOfCardSaid : Prop := Claim7.holds Tryd.pinned (.plain (OpenSpec.ofChange queryOfSpec)) queryOfCard

/-- THE SECOND FORM's CARD OF 'paddocklaw09.QueryOf'. -/
def queryOfUptoCard : Claim7 := { stood := { row := queryOfUptoRow, standIns := [], harness := (true, "a53b0b1de13a69fbc652cb3590a2b0da9e2ed1828b1840be30b70e1891eb8898"), looks := true }, kinds := [], alts := [], laidByText := true, laidKinds := [.sentinel, .sentinel, .sentinel, .sentinel, .sentinel, .sentinel, .sentinel, .sentinel, .sentinel, .sentinel], laidTests := true, laidLooks := .later }
def QueryOfUptoCardSaid : Prop := Claim7.holds Tryd.pinned (.plain (OpenSpec.upto queryOfSpec)) queryOfUptoCard
end Rows
end Go.Proofs.YtaehendpdfpibaaDoor
