/-
  DERIVED. GIVEN WITH THE SEED: THE CARDS: each row of YtaceahjomhgccaaDoorRows.lean that lists a variable, with what it lists TIED to the program's text (the seventh form; the later family's looks); each row that meets fmt, with fmt's text TOLD by the authors' own Lean function (tested against real Go, not proved from fmt's source: count such statements apart). THE CARD IS WHAT COUNTS. Prove the row's statement (the work); the ties are given (YtaceahjomhgccaaDoorTie.lean); close each card by the builder's one call (the guide's Derived/Test/ToyasCard.lean, 'card_holds'). Laid BY PROGRAM, IN A SANDBOX (cutbox-door.mjs). By AI agents, Wed Nov 11 2026. No macro, syntax, notation, axiom, sorry.
-/
import Derived.Test.YtaceahjomhgccaaDoorRows
import GoSem.ClaimSeven
namespace Go.Proofs.YtaceahjomhgccaaDoor
namespace Rows

/-- THE TIED CARD OF 'paddocklaw10.HeapPlays'. -/
def heapPlaysCard : Claim7 := { stood := { row := heapPlaysRow, standIns := [], harness := (true, "fb0d0013628acb0cde1d729e13e9ebb0d265603c93b3d4b0b1d9b5d3e3868ae6"), looks := true }, kinds := [], alts := [], laidByText := true, laidKinds := [.sentinel, .sentinel, .sentinel, .sentinel, .sentinel, .sentinel, .sentinel, .sentinel, .sentinel, .sentinel], laidTests := true, laidLooks := .later }
def HeapPlaysCardSaid : Prop := Claim7.holds Tryd.pinned (.plain (OpenSpec.ofChange heapPlaysSpec)) heapPlaysCard

/-- THE TIED CARD OF 'paddocklaw10.HeapSorts'. -/
def heapSortsCard : Claim7 := { stood := { row := heapSortsRow, standIns := [], harness := (true, "fb0d0013628acb0cde1d729e13e9ebb0d265603c93b3d4b0b1d9b5d3e3868ae6"), looks := true }, kinds := [], alts := [], laidByText := true, laidKinds := [.sentinel, .sentinel], laidTests := true, laidLooks := .later }
def HeapSortsCardSaid : Prop := Claim7.holds Tryd.pinned (.plain (OpenSpec.ofChange heapSortsSpec)) heapSortsCard

/-- THE TIED CARD OF 'paddocklaw10.HeapRises'. -/
def heapRisesCard : Claim7 := { stood := { row := heapRisesRow, standIns := [], harness := (true, "fb0d0013628acb0cde1d729e13e9ebb0d265603c93b3d4b0b1d9b5d3e3868ae6"), looks := true }, kinds := [], alts := [], laidByText := true, laidKinds := [.sentinel, .sentinel], laidTests := true, laidLooks := .later }
def HeapRisesCardSaid : Prop := Claim7.holds Tryd.pinned (.plain (OpenSpec.ofChange heapRisesSpec)) heapRisesCard

/-- THE TIED CARD OF 'paddocklaw10.HeapMixed'. -/
def heapMixedCard : Claim7 := { stood := { row := heapMixedRow, standIns := [], harness := (true, "fb0d0013628acb0cde1d729e13e9ebb0d265603c93b3d4b0b1d9b5d3e3868ae6"), looks := true }, kinds := [], alts := [], laidByText := true, laidKinds := [.sentinel, .sentinel], laidTests := true, laidLooks := .later }
def HeapMixedCardSaid : Prop := Claim7.holds Tryd.pinned (.plain (OpenSpec.ofChange heapMixedSpec)) heapMixedCard

/-- THE TIED CARD OF 'paddocklaw10.HeapOrders'. -/
def heapOrdersCard : Claim7 := { stood := { row := heapOrdersRow, standIns := [], harness := (true, "fb0d0013628acb0cde1d729e13e9ebb0d265603c93b3d4b0b1d9b5d3e3868ae6"), looks := true }, kinds := [], alts := [], laidByText := true, laidKinds := [.sentinel, .sentinel], laidTests := true, laidLooks := .later }
def HeapOrdersCardSaid : Prop := Claim7.holds Tryd.pinned (.plain (OpenSpec.ofChange heapOrdersSpec)) heapOrdersCard

/-- THE SECOND FORM's CARD OF 'paddocklaw10.HeapPlays'. -/
def heapPlaysUptoCard : Claim7 := { stood := { row := heapPlaysUptoRow, standIns := [], harness := (true, "fb0d0013628acb0cde1d729e13e9ebb0d265603c93b3d4b0b1d9b5d3e3868ae6"), looks := true }, kinds := [], alts := [], laidByText := true, laidKinds := [.sentinel, .sentinel, .sentinel, .sentinel, .sentinel, .sentinel, .sentinel, .sentinel, .sentinel, .sentinel], laidTests := true, laidLooks := .later }
def HeapPlaysUptoCardSaid : Prop := Claim7.holds Tryd.pinned (.plain (OpenSpec.upto heapPlaysSpec)) heapPlaysUptoCard

/-- THE SECOND FORM's CARD OF 'paddocklaw10.HeapSorts'. -/
def heapSortsUptoCard : Claim7 := { stood := { row := heapSortsUptoRow, standIns := [], harness := (true, "fb0d0013628acb0cde1d729e13e9ebb0d265603c93b3d4b0b1d9b5d3e3868ae6"), looks := true }, kinds := [], alts := [], laidByText := true, laidKinds := [.sentinel, .sentinel], laidTests := true, laidLooks := .later }
def HeapSortsUptoCardSaid : Prop := Claim7.holds Tryd.pinned (.plain (OpenSpec.upto heapSortsSpec)) heapSortsUptoCard

/-- THE SECOND FORM's CARD OF 'paddocklaw10.HeapRises'. -/
def heapRisesUptoCard : Claim7 := { stood := { row := heapRisesUptoRow, standIns := [], harness := (true, "fb0d0013628acb0cde1d729e13e9ebb0d265603c93b3d4b0b1d9b5d3e3868ae6"), looks := true }, kinds := [], alts := [], laidByText := true, laidKinds := [.sentinel, .sentinel], laidTests := true, laidLooks := .later }
def HeapRisesUptoCardSaid : Prop := Claim7.holds Tryd.pinned (.plain (OpenSpec.upto heapRisesSpec)) heapRisesUptoCard

/-- THE SECOND FORM's CARD OF 'paddocklaw10.HeapMixed'. -/
def heapMixedUptoCard : Claim7 := { stood := { row := heapMixedUptoRow, standIns := [], harness := (true, "fb0d0013628acb0cde1d729e13e9ebb0d265603c93b3d4b0b1d9b5d3e3868ae6"), looks := true }, kinds := [], alts := [], laidByText := true, laidKinds := [.sentinel, .sentinel], laidTests := true, laidLooks := .later }
def HeapMixedUptoCardSaid : Prop := Claim7.holds Tryd.pinned (.plain (OpenSpec.upto heapMixedSpec)) heapMixedUptoCard

/-- THE SECOND FORM's CARD OF 'paddocklaw10.HeapOrders'. -/
def heapOrdersUptoCard : Claim7 := { stood := { row := heapOrdersUptoRow, standIns := [], harness := (true, "fb0d0013628acb0cde1d729e13e9ebb0d265603c93b3d4b0b1d9b5d3e3868ae6"), looks := true }, kinds := [], alts := [], laidByText := true, laidKinds := [.sentinel, .sentinel], laidTests := true, laidLooks := .later }
def HeapOrdersUptoCardSaid : Prop := Claim7.holds Tryd.pinned (.plain (OpenSpec.upto heapOrdersSpec)) heapOrdersUptoCard
end Rows
end Go.Proofs.YtaceahjomhgccaaDoor
