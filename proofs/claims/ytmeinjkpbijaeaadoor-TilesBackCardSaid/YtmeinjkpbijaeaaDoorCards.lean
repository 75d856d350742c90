/-
  DERIVED. GIVEN WITH THE SEED: THE CARDS: each row of YtmeinjkpbijaeaaDoorRows.lean that lists a variable, with what it lists TIED to the program's text (the seventh form; the later family's looks); each row that meets fmt, with fmt's text TOLD by the authors' own Lean function (tested against real Go, not proved from fmt's source: count such statements apart). THE CARD IS WHAT COUNTS. Prove the row's statement (the work); the ties are given (YtmeinjkpbijaeaaDoorTie.lean); close each card by the builder's one call (the guide's Derived/Test/ToyasCard.lean, 'card_holds'). Laid BY PROGRAM, IN A SANDBOX (cutbox-door.mjs). By AI agents, Wed Nov 11 2026. No macro, syntax, notation, axiom, sorry.
-/
import Derived.Test.YtmeinjkpbijaeaaDoorRows
import GoSem.ClaimSeven
namespace Go.Proofs.YtmeinjkpbijaeaaDoor
namespace Rows

/-- THE TIED CARD OF 'paddocklaw14.TilesAt'. -/
def tilesAtCard : Claim7 := { stood := { row := tilesAtRow, standIns := [], harness := (true, "24203213914ea1ecc133039abc172db1c652426dbeb96f3a86f729977ecdfc08"), looks := true }, kinds := [], alts := [], laidByText := true, laidKinds := [.sentinel, .sentinel, .sentinel, .sentinel, .sentinel, .sentinel, .sentinel, .sentinel, .sentinel, .sentinel], laidTests := true, laidLooks := .later }
def TilesAtCardSaid : Prop := Claim7.holds Tryd.pinned (.plain (OpenSpec.ofChange tilesAtSpec)) tilesAtCard

/-- THE TIED CARD OF 'paddocklaw14.TilesPlays'. -/
def tilesPlaysCard : Claim7 := { stood := { row := tilesPlaysRow, standIns := [], harness := (true, "24203213914ea1ecc133039abc172db1c652426dbeb96f3a86f729977ecdfc08"), looks := true }, kinds := [], alts := [], laidByText := true, laidKinds := [.sentinel, .sentinel, .sentinel, .sentinel, .sentinel, .sentinel, .sentinel, .sentinel, .sentinel, .sentinel], laidTests := true, laidLooks := .later }
def TilesPlaysCardSaid : Prop := Claim7.holds Tryd.pinned (.plain (OpenSpec.ofChange tilesPlaysSpec)) tilesPlaysCard

/-- THE TIED CARD OF 'paddocklaw14.TilesBack'. -/
def tilesBackCard : Claim7 := { stood := { row := tilesBackRow, standIns := [], harness := (true, "24203213914ea1ecc133039abc172db1c652426dbeb96f3a86f729977ecdfc08"), looks := true }, kinds := [], alts := [], laidByText := true, laidKinds := [.sentinel, .sentinel], laidTests := true, laidLooks := .later }
def TilesBackCardSaid : Prop := Claim7.holds Tryd.pinned (.plain (OpenSpec.ofChange tilesBackSpec)) tilesBackCard

/-- THE TIED CARD OF 'paddocklaw14.TilesPlaces'. -/
def tilesPlacesCard : Claim7 := { stood := { row := tilesPlacesRow, standIns := [], harness := (true, "24203213914ea1ecc133039abc172db1c652426dbeb96f3a86f729977ecdfc08"), looks := true }, kinds := [], alts := [], laidByText := true, laidKinds := [.sentinel, .sentinel], laidTests := true, laidLooks := .later }
def TilesPlacesCardSaid : Prop := Claim7.holds Tryd.pinned (.plain (OpenSpec.ofChange tilesPlacesSpec)) tilesPlacesCard

/-- THE TIED CARD OF 'paddocklaw14.TilesSums'. -/
def tilesSumsCard : Claim7 := { stood := { row := tilesSumsRow, standIns := [], harness := (true, "24203213914ea1ecc133039abc172db1c652426dbeb96f3a86f729977ecdfc08"), looks := true }, kinds := [], alts := [], laidByText := true, laidKinds := [.sentinel], laidTests := true, laidLooks := .later }
def TilesSumsCardSaid : Prop := Claim7.holds Tryd.pinned (.plain (OpenSpec.ofChange tilesSumsSpec)) tilesSumsCard

/-- THE SECOND FORM's CARD OF 'paddocklaw14.TilesAt'. -/
def tilesAtUptoCard : Claim7 := { stood := { row := tilesAtUptoRow, standIns := [], harness := (true, "24203213914ea1ecc133039abc172db1c652426dbeb96f3a86f729977ecdfc08"), looks := true }, kinds := [], alts := [], laidByText := true, laidKinds := [.sentinel, .sentinel, .sentinel, .sentinel, .sentinel, .sentinel, .sentinel, .sentinel, .sentinel, .sentinel], laidTests := true, laidLooks := .later }
def TilesAtUptoCardSaid : Prop := Claim7.holds Tryd.pinned (.plain (OpenSpec.upto tilesAtSpec)) tilesAtUptoCard

/-- THE SECOND FORM's CARD OF 'paddocklaw14.TilesPlays'. -/
def tilesPlaysUptoCard : Claim7 := { stood := { row := tilesPlaysUptoRow, standIns := [], harness := (true, "24203213914ea1ecc133039abc172db1c652426dbeb96f3a86f729977ecdfc08"), looks := true }, kinds := [], alts := [], laidByText := true, laidKinds := [.sentinel, .sentinel, .sentinel, .sentinel, .sentinel, .sentinel, .sentinel, .sentinel, .sentinel, .sentinel], laidTests := true, laidLooks := .later }
def TilesPlaysUptoCardSaid : Prop := Claim7.holds Tryd.pinned (.plain (OpenSpec.upto tilesPlaysSpec)) tilesPlaysUptoCard

/-- THE SECOND FORM's CARD OF 'paddocklaw14.TilesBack'. -/
def tilesBackUptoCard : Claim7 := { stood := { row := tilesBackUptoRow, standIns := [], harness := (true, "24203213914ea1ecc133039abc172db1c652426dbeb96f3a86f729977ecdfc08"), looks := true }, kinds := [], alts := [], laidByText := true, laidKinds := [.sentinel, .sentinel], laidTests := true, laidLooks := .later }
def TilesBackUptoCardSaid : Prop := Claim7.holds Tryd.pinned (.plain (OpenSpec.upto tilesBackSpec)) tilesBackUptoCard

/-- THE SECOND FORM's CARD OF 'paddocklaw14.TilesPlaces'. -/
def tilesPlacesUptoCard : Claim7 := { stood := { row := tilesPlacesUptoRow, standIns := [], harness := (true, "24203213914ea1ecc133039abc172db1c652426dbeb96f3a86f729977ecdfc08"), looks := true }, kinds := [], alts := [], laidByText := true, laidKinds := [.sentinel, .sentinel], laidTests := true, laidLooks := .later }
def TilesPlacesUptoCardSaid : Prop := Claim7.holds Tryd.pinned (.plain (OpenSpec.upto tilesPlacesSpec)) tilesPlacesUptoCard

/-- THE SECOND FORM's CARD OF 'paddocklaw14.TilesSums'. -/
def tilesSumsUptoCard : Claim7 := { stood := { row := tilesSumsUptoRow, standIns := [], harness := (true, "24203213914ea1ecc133039abc172db1c652426dbeb96f3a86f729977ecdfc08"), looks := true }, kinds := [], alts := [], laidByText := true, laidKinds := [.sentinel], laidTests := true, laidLooks := .later }
def TilesSumsUptoCardSaid : Prop := Claim7.holds Tryd.pinned (.plain (OpenSpec.upto tilesSumsSpec)) tilesSumsUptoCard
end Rows
end Go.Proofs.YtmeinjkpbijaeaaDoor
