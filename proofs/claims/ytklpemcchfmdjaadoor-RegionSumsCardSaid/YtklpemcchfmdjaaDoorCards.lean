/-
  DERIVED. GIVEN WITH THE SEED: THE CARDS: each row of YtklpemcchfmdjaaDoorRows.lean that lists a variable, with what it lists TIED to the program's text (the seventh form; the later family's looks); each row that meets fmt, with fmt's text TOLD by the authors' own Lean function (tested against real Go, not proved from fmt's source: count such statements apart). THE CARD IS WHAT COUNTS. Prove the row's statement (the work); the ties are given (YtklpemcchfmdjaaDoorTie.lean); close each card by the builder's one call (the guide's Derived/Test/ToyasCard.lean, 'card_holds'). Laid BY PROGRAM, IN A SANDBOX (cutbox-door.mjs). By AI agents, Wed Nov 11 2026. No macro, syntax, notation, axiom, sorry.
-/
import Derived.Test.YtklpemcchfmdjaaDoorRows
import GoSem.ClaimSeven
namespace Go.Proofs.YtklpemcchfmdjaaDoor
namespace Rows

/-- THE TIED CARD OF 'paddocklaw15.RegionPlays'. -/
def regionPlaysCard : Claim7 := { stood := { row := regionPlaysRow, standIns := [], harness := (true, "17e8efe08070406bd1d37d36bc482eebc541bffe8528da677081b8a82bd09c42"), looks := true }, kinds := [], alts := [], laidByText := true, laidKinds := [.sentinel, .sentinel, .sentinel, .sentinel, .sentinel, .sentinel, .sentinel, .sentinel, .sentinel, .sentinel], laidTests := true, laidLooks := .later }
def RegionPlaysCardSaid : Prop := Claim7.holds Tryd.pinned (.plain (OpenSpec.ofChange regionPlaysSpec)) regionPlaysCard

/-- THE TIED CARD OF 'paddocklaw15.RegionBack'. -/
def regionBackCard : Claim7 := { stood := { row := regionBackRow, standIns := [], harness := (true, "17e8efe08070406bd1d37d36bc482eebc541bffe8528da677081b8a82bd09c42"), looks := true }, kinds := [], alts := [], laidByText := true, laidKinds := [.sentinel, .sentinel, .sentinel, .sentinel], laidTests := true, laidLooks := .later }
def RegionBackCardSaid : Prop := Claim7.holds Tryd.pinned (.plain (OpenSpec.ofChange regionBackSpec)) regionBackCard

/-- THE TIED CARD OF 'paddocklaw15.RegionSums'. -/
def regionSumsCard : Claim7 := { stood := { row := regionSumsRow, standIns := [], harness := (true, "17e8efe08070406bd1d37d36bc482eebc541bffe8528da677081b8a82bd09c42"), looks := true }, kinds := [], alts := [], laidByText := true, laidKinds := [.sentinel, .sentinel, .sentinel, .sentinel], laidTests := true, laidLooks := .later }
def RegionSumsCardSaid : Prop := Claim7.holds Tryd.pinned (.plain (OpenSpec.ofChange regionSumsSpec)) regionSumsCard

/-- THE TIED CARD OF 'paddocklaw15.RegionNext'. -/
def regionNextCard : Claim7 := { stood := { row := regionNextRow, standIns := [], harness := (true, "17e8efe08070406bd1d37d36bc482eebc541bffe8528da677081b8a82bd09c42"), looks := true }, kinds := [], alts := [], laidByText := true, laidKinds := [.sentinel, .sentinel, .sentinel, .sentinel], laidTests := true, laidLooks := .later }
def RegionNextCardSaid : Prop := Claim7.holds Tryd.pinned (.plain (OpenSpec.ofChange regionNextSpec)) regionNextCard

/-- THE SECOND FORM's CARD OF 'paddocklaw15.RegionPlays'. -/
def regionPlaysUptoCard : Claim7 := { stood := { row := regionPlaysUptoRow, standIns := [], harness := (true, "17e8efe08070406bd1d37d36bc482eebc541bffe8528da677081b8a82bd09c42"), looks := true }, kinds := [], alts := [], laidByText := true, laidKinds := [.sentinel, .sentinel, .sentinel, .sentinel, .sentinel, .sentinel, .sentinel, .sentinel, .sentinel, .sentinel], laidTests := true, laidLooks := .later }
def RegionPlaysUptoCardSaid : Prop := Claim7.holds Tryd.pinned (.plain (OpenSpec.upto regionPlaysSpec)) regionPlaysUptoCard

/-- THE SECOND FORM's CARD OF 'paddocklaw15.RegionBack'. -/
def regionBackUptoCard : Claim7 := { stood := { row := regionBackUptoRow, standIns := [], harness := (true, "17e8efe08070406bd1d37d36bc482eebc541bffe8528da677081b8a82bd09c42"), looks := true }, kinds := [], alts := [], laidByText := true, laidKinds := [.sentinel, .sentinel, .sentinel, .sentinel], laidTests := true, laidLooks := .later }
def RegionBackUptoCardSaid : Prop := Claim7.holds Tryd.pinned (.plain (OpenSpec.upto regionBackSpec)) regionBackUptoCard

/-- THE SECOND FORM's CARD OF 'paddocklaw15.RegionSums'. -/
def regionSumsUptoCard : Claim7 := { stood := { row := regionSumsUptoRow, standIns := [], harness := (true, "17e8efe08070406bd1d37d36bc482eebc541bffe8528da677081b8a82bd09c42"), looks := true }, kinds := [], alts := [], laidByText := true, laidKinds := [.sentinel, .sentinel, .sentinel, .sentinel], laidTests := true, laidLooks := .later }
def RegionSumsUptoCardSaid : Prop := Claim7.holds Tryd.pinned (.plain (OpenSpec.upto regionSumsSpec)) regionSumsUptoCard

/-- THE SECOND FORM's CARD OF 'paddocklaw15.RegionNext'. -/
def regionNextUptoCard : Claim7 := { stood := { row := regionNextUptoRow, standIns := [], harness := (true, "17e8efe08070406bd1d37d36bc482eebc541bffe8528da677081b8a82bd09c42"), looks := true }, kinds := [], alts := [], laidByText := true, laidKinds := [.sentinel, .sentinel, .sentinel, .sentinel], laidTests := true, laidLooks := .later }
def RegionNextUptoCardSaid : Prop := Claim7.holds Tryd.pinned (.plain (OpenSpec.upto regionNextSpec)) regionNextUptoCard
end Rows
end Go.Proofs.YtklpemcchfmdjaaDoor
