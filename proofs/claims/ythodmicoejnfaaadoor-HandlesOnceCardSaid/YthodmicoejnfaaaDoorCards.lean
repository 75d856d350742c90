/-
  DERIVED. GIVEN WITH THE SEED: THE CARDS: each row of YthodmicoejnfaaaDoorRows.lean that lists a variable, with what it lists TIED to the program's text (the seventh form; the later family's looks); each row that meets fmt, with fmt's text TOLD by the authors' own Lean function (tested against real Go, not proved from fmt's source: count such statements apart). THE CARD IS WHAT COUNTS. Prove the row's statement (the work); the ties are given (YthodmicoejnfaaaDoorTie.lean); close each card by the builder's one call (the guide's Derived/Test/ToyasCard.lean, 'card_holds'). Laid BY PROGRAM, IN A SANDBOX (cutbox-door.mjs). By AI agents, Wed Nov 11 2026. No macro, syntax, notation, axiom, sorry.
-/
import Derived.Test.YthodmicoejnfaaaDoorRows
import GoSem.ClaimSeven
namespace Go.Proofs.YthodmicoejnfaaaDoor
namespace Rows

/-- THE TIED CARD OF 'paddocklaw04.HandlesPlays'. -/
def handlesPlaysCard : Claim7 := { stood := { row := handlesPlaysRow, standIns := [], harness := (true, "193254956e454d36d45031a48fb46474155d4d038d5879c351d13ef3a0dac86a"), looks := true }, kinds := [], alts := [], laidByText := true, laidKinds := [.sentinel, .sentinel, .sentinel, .sentinel, .sentinel, .sentinel, .sentinel, .sentinel, .sentinel, .sentinel], laidTests := true, laidLooks := .later }
def HandlesPlaysCardSaid : Prop := Claim7.holds Tryd.pinned (.plain (OpenSpec.ofChange handlesPlaysSpec)) handlesPlaysCard

/-- THE TIED CARD OF 'paddocklaw04.HandlesOnce'. -/
def handlesOnceCard : Claim7 := { stood := { row := handlesOnceRow, standIns := [], harness := (true, "193254956e454d36d45031a48fb46474155d4d038d5879c351d13ef3a0dac86a"), looks := true }, kinds := [], alts := [], laidByText := true, laidKinds := [.sentinel, .sentinel, .sentinel, .sentinel, .sentinel, .sentinel, .sentinel, .sentinel, .sentinel, .sentinel], laidTests := true, laidLooks := .later }
def HandlesOnceCardSaid : Prop := Claim7.holds Tryd.pinned (.plain (OpenSpec.ofChange handlesOnceSpec)) handlesOnceCard

/-- THE TIED CARD OF 'paddocklaw04.HandlesBack'. -/
def handlesBackCard : Claim7 := { stood := { row := handlesBackRow, standIns := [], harness := (true, "193254956e454d36d45031a48fb46474155d4d038d5879c351d13ef3a0dac86a"), looks := true }, kinds := [], alts := [], laidByText := true, laidKinds := [.sentinel, .sentinel, .sentinel, .sentinel, .sentinel, .sentinel, .sentinel, .sentinel, .sentinel, .sentinel], laidTests := true, laidLooks := .later }
def HandlesBackCardSaid : Prop := Claim7.holds Tryd.pinned (.plain (OpenSpec.ofChange handlesBackSpec)) handlesBackCard

/-- THE TIED CARD OF 'paddocklaw04.HandlesLimits'. -/
def handlesLimitsCard : Claim7 := { stood := { row := handlesLimitsRow, standIns := [], harness := (true, "193254956e454d36d45031a48fb46474155d4d038d5879c351d13ef3a0dac86a"), looks := true }, kinds := [], alts := [], laidByText := true, laidKinds := [.sentinel, .sentinel, .sentinel, .sentinel, .sentinel, .sentinel, .sentinel, .sentinel, .sentinel, .sentinel], laidTests := true, laidLooks := .later }
def HandlesLimitsCardSaid : Prop := Claim7.holds Tryd.pinned (.plain (OpenSpec.ofChange handlesLimitsSpec)) handlesLimitsCard

/-- THE TIED CARD OF 'paddocklaw04.HandlesApart'. -/
def handlesApartCard : Claim7 := { stood := { row := handlesApartRow, standIns := [], harness := (true, "193254956e454d36d45031a48fb46474155d4d038d5879c351d13ef3a0dac86a"), looks := true }, kinds := [], alts := [], laidByText := true, laidKinds := [.sentinel, .sentinel], laidTests := true, laidLooks := .later }
def HandlesApartCardSaid : Prop := Claim7.holds Tryd.pinned (.plain (OpenSpec.ofChange handlesApartSpec)) handlesApartCard

/-- THE SECOND FORM's CARD OF 'paddocklaw04.HandlesPlays'. -/
def handlesPlaysUptoCard : Claim7 := { stood := { row := handlesPlaysUptoRow, standIns := [], harness := (true, "193254956e454d36d45031a48fb46474155d4d038d5879c351d13ef3a0dac86a"), looks := true }, kinds := [], alts := [], laidByText := true, laidKinds := [.sentinel, .sentinel, .sentinel, .sentinel, .sentinel, .sentinel, .sentinel, .sentinel, .sentinel, .sentinel], laidTests := true, laidLooks := .later }
def HandlesPlaysUptoCardSaid : Prop := Claim7.holds Tryd.pinned (.plain (OpenSpec.upto handlesPlaysSpec)) handlesPlaysUptoCard

/-- THE SECOND FORM's CARD OF 'paddocklaw04.HandlesOnce'. -/
def handlesOnceUptoCard : Claim7 := { stood := { row := handlesOnceUptoRow, standIns := [], harness := (true, "193254956e454d36d45031a48fb46474155d4d038d5879c351d13ef3a0dac86a"), looks := true }, kinds := [], alts := [], laidByText := true, laidKinds := [.sentinel, .sentinel, .sentinel, .sentinel, .sentinel, .sentinel, .sentinel, .sentinel, .sentinel, .sentinel], laidTests := true, laidLooks := .later }
def HandlesOnceUptoCardSaid : Prop := Claim7.holds Tryd.pinned (.plain (OpenSpec.upto handlesOnceSpec)) handlesOnceUptoCard

/-- THE SECOND FORM's CARD OF 'paddocklaw04.HandlesBack'. -/
def handlesBackUptoCard : Claim7 := { stood := { row := handlesBackUptoRow, standIns := [], harness := (true, "193254956e454d36d45031a48fb46474155d4d038d5879c351d13ef3a0dac86a"), looks := true }, kinds := [], alts := [], laidByText := true, laidKinds := [.sentinel, .sentinel, .sentinel, .sentinel, .sentinel, .sentinel, .sentinel, .sentinel, .sentinel, .sentinel], laidTests := true, laidLooks := .later }
def HandlesBackUptoCardSaid : Prop := Claim7.holds Tryd.pinned (.plain (OpenSpec.upto handlesBackSpec)) handlesBackUptoCard

/-- THE SECOND FORM's CARD OF 'paddocklaw04.HandlesLimits'. -/
def handlesLimitsUptoCard : Claim7 := { stood := { row := handlesLimitsUptoRow, standIns := [], harness := (true, "193254956e454d36d45031a48fb46474155d4d038d5879c351d13ef3a0dac86a"), looks := true }, kinds := [], alts := [], laidByText := true, laidKinds := [.sentinel, .sentinel, .sentinel, .sentinel, .sentinel, .sentinel, .sentinel, .sentinel, .sentinel, .sentinel], laidTests := true, laidLooks := .later }
def HandlesLimitsUptoCardSaid : Prop := Claim7.holds Tryd.pinned (.plain (OpenSpec.upto handlesLimitsSpec)) handlesLimitsUptoCard

/-- THE SECOND FORM's CARD OF 'paddocklaw04.HandlesApart'. -/
def handlesApartUptoCard : Claim7 := { stood := { row := handlesApartUptoRow, standIns := [], harness := (true, "193254956e454d36d45031a48fb46474155d4d038d5879c351d13ef3a0dac86a"), looks := true }, kinds := [], alts := [], laidByText := true, laidKinds := [.sentinel, .sentinel], laidTests := true, laidLooks := .later }
def HandlesApartUptoCardSaid : Prop := Claim7.holds Tryd.pinned (.plain (OpenSpec.upto handlesApartSpec)) handlesApartUptoCard
end Rows
end Go.Proofs.YthodmicoejnfaaaDoor
