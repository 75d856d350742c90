/-
  NARROWER THAN 'FOR EVERY INPUT', by the rows' own cells (each row's printed sentence says how): TilesAt: laid · TilesPlays: laid · TilesBack: laid · TilesPlaces: laid · TilesSums: laid.
  DERIVED. THE GIVEN ROWS OF THIS SEAT. 5 by the template 'for every input the law returns true; each argument reads behind the call as it read before'; 0 by the template 'total and deterministic' (their statements: YtmeinjkpbijaeaaDoorTotals.lean).
  GIVEN WITH THE SEED: the statements are not yours to turn. If you find one false, say at which input.
  Laid BY PROGRAM, IN A SANDBOX (cutbox-rows.mjs): the forced cells as the released guide's own fill.sh prints them over the translation 9cf623bc9066af31… (all of the seat's roots in one cut). By AI agents, Wed Nov 11 2026. No macro, syntax, notation, axiom, sorry.
-/
import Derived.Test.YtmeinjkpbijaeaaDoorChecked
import GoSem.Claim
import GoSem.ClaimJoined
import GoSem.ClaimMapViews
import Derived.JoinedTies
import Derived.KernelRfl
namespace Go.Proofs.YtmeinjkpbijaeaaDoor
/- THE CELL 'sum', in the pinned program and in every row, IS THE sha256 OF THE DUMP (.gsa) THAT YtmeinjkpbijaeaaDoorProg.lean LOADS. Nothing in Lean hashes anything: it is a label: what it is worth is what the hold of that sum in a sandbox is worth. -/
noncomputable def Tryd.pinned : Pinned := { name := "ytmeinjkpbijaeaadoor", sum := "9cf623bc9066af319da9112e8799fb48d324e2c6cd1fba5be25474c63586dc39", checked := Tryd.checked }
namespace Rows
def none {H : Type} : Left H := { results := [], args := [] }

/- WHAT THE LISTED PACKAGE-LEVEL VARIABLES READ AS WHEN THE CALL BEGINS. Each datum BY PROGRAM (the guide's laid-datum.mjs) off the statement by which the dump's own 'gosem.cut.vars' lays the variable. In a bare row this is a premise. The card (YtmeinjkpbijaeaaDoorCards.lean) ties it to the program's text. -/
def laid_paddock_api_ErrRange {H : Type} : DataW H := .iface "*errors.errorString" (.ptr (.agg [.lit (.string [112, 97, 100, 100, 111, 99, 107, 58, 32, 114, 97, 110, 103, 101])]))
def laid_paddock_api_ErrFull {H : Type} : DataW H := .iface "*errors.errorString" (.ptr (.agg [.lit (.string [112, 97, 100, 100, 111, 99, 107, 58, 32, 102, 117, 108, 108])]))
def laid_paddock_api_ErrNone {H : Type} : DataW H := .iface "*errors.errorString" (.ptr (.agg [.lit (.string [112, 97, 100, 100, 111, 99, 107, 58, 32, 110, 111, 110, 101])]))
def laid_paddock_api_ErrExists {H : Type} : DataW H := .iface "*errors.errorString" (.ptr (.agg [.lit (.string [112, 97, 100, 100, 111, 99, 107, 58, 32, 101, 120, 105, 115, 116, 115])]))
def laid_paddock_api_ErrKind {H : Type} : DataW H := .iface "*errors.errorString" (.ptr (.agg [.lit (.string [112, 97, 100, 100, 111, 99, 107, 58, 32, 107, 105, 110, 100])]))
def laid_paddock_api_ErrState {H : Type} : DataW H := .iface "*errors.errorString" (.ptr (.agg [.lit (.string [112, 97, 100, 100, 111, 99, 107, 58, 32, 115, 116, 97, 116, 101])]))
def laid_paddock_api_ErrForm {H : Type} : DataW H := .iface "*errors.errorString" (.ptr (.agg [.lit (.string [112, 97, 100, 100, 111, 99, 107, 58, 32, 102, 111, 114, 109])]))
def laid_paddock_api_ErrBlocked {H : Type} : DataW H := .iface "*errors.errorString" (.ptr (.agg [.lit (.string [112, 97, 100, 100, 111, 99, 107, 58, 32, 98, 108, 111, 99, 107, 101, 100])]))
def laid_paddock_api_ErrPath {H : Type} : DataW H := .iface "*errors.errorString" (.ptr (.agg [.lit (.string [112, 97, 100, 100, 111, 99, 107, 58, 32, 112, 97, 116, 104])]))
def laid_paddock_api_ErrGoal {H : Type} : DataW H := .iface "*errors.errorString" (.ptr (.agg [.lit (.string [112, 97, 100, 100, 111, 99, 107, 58, 32, 103, 111, 97, 108])]))

/-- 'paddocklaw14.TilesAt': WHATEVER THE INPUT: true; the input reads as it did. -/
def tilesAtSpec : ChangeSpec := { name := "tilesAt", fn := fun _ => fun
  | [d1, d2, d3] => { results := [.lit (.bool true)], args := [d1, d2, d3] }
  | _ => none }
def tilesAtRow : OpenClaim := { program := "ytmeinjkpbijaeaadoor", sum := "9cf623bc9066af319da9112e8799fb48d324e2c6cd1fba5be25474c63586dc39", func := "paddock/paddocklaw14.TilesAt", spec := "tilesAt", inPlace := ["internal/reflectlite.TypeOf"], unfollowed := true, recurses := true, named := ["paddock/api.ErrForm", "paddock/api.ErrRange", "paddock/api.ErrFull", "paddock/api.ErrNone", "paddock/api.ErrExists", "paddock/api.ErrKind", "paddock/api.ErrState", "paddock/api.ErrBlocked", "paddock/api.ErrPath", "paddock/api.ErrGoal"], apart := false, laid := [("paddock/api.ErrRange", laid_paddock_api_ErrRange), ("paddock/api.ErrFull", laid_paddock_api_ErrFull), ("paddock/api.ErrNone", laid_paddock_api_ErrNone), ("paddock/api.ErrExists", laid_paddock_api_ErrExists), ("paddock/api.ErrKind", laid_paddock_api_ErrKind), ("paddock/api.ErrState", laid_paddock_api_ErrState), ("paddock/api.ErrForm", laid_paddock_api_ErrForm), ("paddock/api.ErrBlocked", laid_paddock_api_ErrBlocked), ("paddock/api.ErrPath", laid_paddock_api_ErrPath), ("paddock/api.ErrGoal", laid_paddock_api_ErrGoal)] }
def TilesAtSaid : Prop := tilesAtRow.holds Tryd.pinned (OpenSpec.ofChange tilesAtSpec)

/-- ITS FALSE NEIGHBOUR: 'it returns false'. Refute it at one input. -/
def tilesAtWrong : ChangeSpec := { name := "tilesAt", fn := fun _ => fun
  | [d1, d2, d3] => { results := [.lit (.bool false)], args := [d1, d2, d3] }
  | _ => none }
def TilesAtWrongFalsely : Prop := tilesAtRow.holds Tryd.pinned (OpenSpec.ofChange tilesAtWrong)

/-- 'paddocklaw14.TilesPlays': WHATEVER THE INPUT: true; the input reads as it did. -/
def tilesPlaysSpec : ChangeSpec := { name := "tilesPlays", fn := fun _ => fun
  | [d1, d2, d3] => { results := [.lit (.bool true)], args := [d1, d2, d3] }
  | _ => none }
def tilesPlaysRow : OpenClaim := { program := "ytmeinjkpbijaeaadoor", sum := "9cf623bc9066af319da9112e8799fb48d324e2c6cd1fba5be25474c63586dc39", func := "paddock/paddocklaw14.TilesPlays", spec := "tilesPlays", inPlace := ["internal/reflectlite.TypeOf"], unfollowed := true, recurses := true, named := ["paddock/api.ErrForm", "paddock/api.ErrRange", "paddock/api.ErrFull", "paddock/api.ErrNone", "paddock/api.ErrExists", "paddock/api.ErrKind", "paddock/api.ErrState", "paddock/api.ErrBlocked", "paddock/api.ErrPath", "paddock/api.ErrGoal"], apart := false, laid := [("paddock/api.ErrRange", laid_paddock_api_ErrRange), ("paddock/api.ErrFull", laid_paddock_api_ErrFull), ("paddock/api.ErrNone", laid_paddock_api_ErrNone), ("paddock/api.ErrExists", laid_paddock_api_ErrExists), ("paddock/api.ErrKind", laid_paddock_api_ErrKind), ("paddock/api.ErrState", laid_paddock_api_ErrState), ("paddock/api.ErrForm", laid_paddock_api_ErrForm), ("paddock/api.ErrBlocked", laid_paddock_api_ErrBlocked), ("paddock/api.ErrPath", laid_paddock_api_ErrPath), ("paddock/api.ErrGoal", laid_paddock_api_ErrGoal)] }
def TilesPlaysSaid : Prop := tilesPlaysRow.holds Tryd.pinned (OpenSpec.ofChange tilesPlaysSpec)

/-- ITS FALSE NEIGHBOUR: 'it returns false'. Refute it at one input. -/
def tilesPlaysWrong : ChangeSpec := { name := "tilesPlays", fn := fun _ => fun
  | [d1, d2, d3] => { results := [.lit (.bool false)], args := [d1, d2, d3] }
  | _ => none }
def TilesPlaysWrongFalsely : Prop := tilesPlaysRow.holds Tryd.pinned (OpenSpec.ofChange tilesPlaysWrong)

/-- 'paddocklaw14.TilesBack': WHATEVER THE INPUT: true; the input reads as it did. -/
def tilesBackSpec : ChangeSpec := { name := "tilesBack", fn := fun _ => fun
  | [d1, d2, d3] => { results := [.lit (.bool true)], args := [d1, d2, d3] }
  | _ => none }
def tilesBackRow : OpenClaim := { program := "ytmeinjkpbijaeaadoor", sum := "9cf623bc9066af319da9112e8799fb48d324e2c6cd1fba5be25474c63586dc39", func := "paddock/paddocklaw14.TilesBack", spec := "tilesBack", unfollowed := true, recurses := true, named := ["paddock/api.ErrForm", "paddock/api.ErrNone"], apart := false, laid := [("paddock/api.ErrNone", laid_paddock_api_ErrNone), ("paddock/api.ErrForm", laid_paddock_api_ErrForm)] }
def TilesBackSaid : Prop := tilesBackRow.holds Tryd.pinned (OpenSpec.ofChange tilesBackSpec)

/-- ITS FALSE NEIGHBOUR: 'it returns false'. Refute it at one input. -/
def tilesBackWrong : ChangeSpec := { name := "tilesBack", fn := fun _ => fun
  | [d1, d2, d3] => { results := [.lit (.bool false)], args := [d1, d2, d3] }
  | _ => none }
def TilesBackWrongFalsely : Prop := tilesBackRow.holds Tryd.pinned (OpenSpec.ofChange tilesBackWrong)

/-- 'paddocklaw14.TilesPlaces': WHATEVER THE INPUT: true; the input reads as it did. -/
def tilesPlacesSpec : ChangeSpec := { name := "tilesPlaces", fn := fun _ => fun
  | [d] => { results := [.lit (.bool true)], args := [d] }
  | _ => none }
def tilesPlacesRow : OpenClaim := { program := "ytmeinjkpbijaeaadoor", sum := "9cf623bc9066af319da9112e8799fb48d324e2c6cd1fba5be25474c63586dc39", func := "paddock/paddocklaw14.TilesPlaces", spec := "tilesPlaces", named := ["paddock/api.ErrForm", "paddock/api.ErrRange"], apart := false, laid := [("paddock/api.ErrRange", laid_paddock_api_ErrRange), ("paddock/api.ErrForm", laid_paddock_api_ErrForm)] }
def TilesPlacesSaid : Prop := tilesPlacesRow.holds Tryd.pinned (OpenSpec.ofChange tilesPlacesSpec)

/-- ITS FALSE NEIGHBOUR: 'it returns false'. Refute it at one input. -/
def tilesPlacesWrong : ChangeSpec := { name := "tilesPlaces", fn := fun _ => fun
  | [d] => { results := [.lit (.bool false)], args := [d] }
  | _ => none }
def TilesPlacesWrongFalsely : Prop := tilesPlacesRow.holds Tryd.pinned (OpenSpec.ofChange tilesPlacesWrong)

/-- 'paddocklaw14.TilesSums': WHATEVER THE INPUT: true; the input reads as it did. -/
def tilesSumsSpec : ChangeSpec := { name := "tilesSums", fn := fun _ => fun
  | [d1, d2] => { results := [.lit (.bool true)], args := [d1, d2] }
  | _ => none }
def tilesSumsRow : OpenClaim := { program := "ytmeinjkpbijaeaadoor", sum := "9cf623bc9066af319da9112e8799fb48d324e2c6cd1fba5be25474c63586dc39", func := "paddock/paddocklaw14.TilesSums", spec := "tilesSums", unfollowed := true, recurses := true, named := ["paddock/api.ErrForm"], apart := false, laid := [("paddock/api.ErrForm", laid_paddock_api_ErrForm)] }
def TilesSumsSaid : Prop := tilesSumsRow.holds Tryd.pinned (OpenSpec.ofChange tilesSumsSpec)

/-- ITS FALSE NEIGHBOUR: 'it returns false'. Refute it at one input. -/
def tilesSumsWrong : ChangeSpec := { name := "tilesSums", fn := fun _ => fun
  | [d1, d2] => { results := [.lit (.bool false)], args := [d1, d2] }
  | _ => none }
def TilesSumsWrongFalsely : Prop := tilesSumsRow.holds Tryd.pinned (OpenSpec.ofChange tilesSumsWrong)

/- THE SECOND FORM. 'bulk': how many values and letters a reading holds, each counted each time it is reached (what is shared counts as often as it is met; a slice's spare places count too). A statement '..UptoSaid' is the law's where the arguments, and the package variables that the reading takes, are together of bulk at most 1048576: NARROWER than '..Said'. Prove '..Said' where nothing that the law and all that it calls make is longer than what came in: it says more and counts as full. Else prove '..UptoSaid'. A law counts once. -/
mutual
def uptoBulk {H : Type} : DataW H → Nat
  | .lit (.string bytes) => bytes.length + 1
  | .lit _ => 1
  | .nil => 1
  | .ptr d => uptoBulk d + 1
  | .slice elems spare => uptoBulkAll elems + uptoBulkAll spare + 1
  | .agg parts => uptoBulkAll parts + 1
  | .iface _ d => uptoBulk d + 1
  | .map entries => uptoBulkEntries entries + 1
  | .held _ => 1
def uptoBulkAll {H : Type} : List (DataW H) → Nat
  | [] => 0
  | d :: r => uptoBulk d + uptoBulkAll r
def uptoBulkEntries {H : Type} : List (Lit × DataW H) → Nat
  | [] => 0
  | x :: r => uptoBulkEntry x + uptoBulkEntries r
def uptoBulkEntry {H : Type} : Lit × DataW H → Nat
  | (.string bytes, d) => bytes.length + uptoBulk d + 1
  | (_, d) => uptoBulk d + 1
 end
def uptoSmall : (H : Type) → List (DataW H) → Bool := fun _ ds => decide (uptoBulkAll ds ≤ 1048576)
def OpenSpec.upto (s : _root_.Go.ChangeSpec) : _root_.Go.OpenSpec := { _root_.Go.OpenSpec.ofChange s with cond := some uptoSmall }

/-- 'paddocklaw14.TilesAt', WHERE WHAT IT READS IS OF BULK AT MOST 1048576: true; the input reads as it did. -/
def tilesAtUptoRow : OpenClaim := { program := "ytmeinjkpbijaeaadoor", sum := "9cf623bc9066af319da9112e8799fb48d324e2c6cd1fba5be25474c63586dc39", func := "paddock/paddocklaw14.TilesAt", spec := "tilesAt", inPlace := ["internal/reflectlite.TypeOf"], unfollowed := true, recurses := true, named := ["paddock/api.ErrForm", "paddock/api.ErrRange", "paddock/api.ErrFull", "paddock/api.ErrNone", "paddock/api.ErrExists", "paddock/api.ErrKind", "paddock/api.ErrState", "paddock/api.ErrBlocked", "paddock/api.ErrPath", "paddock/api.ErrGoal"], apart := false, laid := [("paddock/api.ErrRange", laid_paddock_api_ErrRange), ("paddock/api.ErrFull", laid_paddock_api_ErrFull), ("paddock/api.ErrNone", laid_paddock_api_ErrNone), ("paddock/api.ErrExists", laid_paddock_api_ErrExists), ("paddock/api.ErrKind", laid_paddock_api_ErrKind), ("paddock/api.ErrState", laid_paddock_api_ErrState), ("paddock/api.ErrForm", laid_paddock_api_ErrForm), ("paddock/api.ErrBlocked", laid_paddock_api_ErrBlocked), ("paddock/api.ErrPath", laid_paddock_api_ErrPath), ("paddock/api.ErrGoal", laid_paddock_api_ErrGoal)], narrowed := true }
def TilesAtUptoSaid : Prop := tilesAtUptoRow.holds Tryd.pinned (OpenSpec.upto tilesAtSpec)

/-- 'paddocklaw14.TilesPlays', WHERE WHAT IT READS IS OF BULK AT MOST 1048576: true; the input reads as it did. -/
def tilesPlaysUptoRow : OpenClaim := { program := "ytmeinjkpbijaeaadoor", sum := "9cf623bc9066af319da9112e8799fb48d324e2c6cd1fba5be25474c63586dc39", func := "paddock/paddocklaw14.TilesPlays", spec := "tilesPlays", inPlace := ["internal/reflectlite.TypeOf"], unfollowed := true, recurses := true, named := ["paddock/api.ErrForm", "paddock/api.ErrRange", "paddock/api.ErrFull", "paddock/api.ErrNone", "paddock/api.ErrExists", "paddock/api.ErrKind", "paddock/api.ErrState", "paddock/api.ErrBlocked", "paddock/api.ErrPath", "paddock/api.ErrGoal"], apart := false, laid := [("paddock/api.ErrRange", laid_paddock_api_ErrRange), ("paddock/api.ErrFull", laid_paddock_api_ErrFull), ("paddock/api.ErrNone", laid_paddock_api_ErrNone), ("paddock/api.ErrExists", laid_paddock_api_ErrExists), ("paddock/api.ErrKind", laid_paddock_api_ErrKind), ("paddock/api.ErrState", laid_paddock_api_ErrState), ("paddock/api.ErrForm", laid_paddock_api_ErrForm), ("paddock/api.ErrBlocked", laid_paddock_api_ErrBlocked), ("paddock/api.ErrPath", laid_paddock_api_ErrPath), ("paddock/api.ErrGoal", laid_paddock_api_ErrGoal)], narrowed := true }
def TilesPlaysUptoSaid : Prop := tilesPlaysUptoRow.holds Tryd.pinned (OpenSpec.upto tilesPlaysSpec)

/-- 'paddocklaw14.TilesBack', WHERE WHAT IT READS IS OF BULK AT MOST 1048576: true; the input reads as it did. -/
def tilesBackUptoRow : OpenClaim := { program := "ytmeinjkpbijaeaadoor", sum := "9cf623bc9066af319da9112e8799fb48d324e2c6cd1fba5be25474c63586dc39", func := "paddock/paddocklaw14.TilesBack", spec := "tilesBack", unfollowed := true, recurses := true, named := ["paddock/api.ErrForm", "paddock/api.ErrNone"], apart := false, laid := [("paddock/api.ErrNone", laid_paddock_api_ErrNone), ("paddock/api.ErrForm", laid_paddock_api_ErrForm)], narrowed := true }
def TilesBackUptoSaid : Prop := tilesBackUptoRow.holds Tryd.pinned (OpenSpec.upto tilesBackSpec)

/-- 'paddocklaw14.TilesPlaces', WHERE WHAT IT READS IS OF BULK AT MOST 1048576: true; the input reads as it did. -/
def tilesPlacesUptoRow : OpenClaim := { program := "ytmeinjkpbijaeaadoor", sum := "9cf623bc9066af319da9112e8799fb48d324e2c6cd1fba5be25474c63586dc39", func := "paddock/paddocklaw14.TilesPlaces", spec := "tilesPlaces", named := ["paddock/api.ErrForm", "paddock/api.ErrRange"], apart := false, laid := [("paddock/api.ErrRange", laid_paddock_api_ErrRange), ("paddock/api.ErrForm", laid_paddock_api_ErrForm)], narrowed := true }
def TilesPlacesUptoSaid : Prop := tilesPlacesUptoRow.holds Tryd.pinned (OpenSpec.upto tilesPlacesSpec)

/-- 'paddocklaw14.TilesSums', WHERE WHAT IT READS IS OF BULK AT MOST 1048576: true; the input reads as it did. -/
def tilesSumsUptoRow : OpenClaim := { program := "ytmeinjkpbijaeaadoor", sum := "9cf623bc9066af319da9112e8799fb48d324e2c6cd1fba5be25474c63586dc39", func := "paddock/paddocklaw14.TilesSums", spec := "tilesSums", unfollowed := true, recurses := true, named := ["paddock/api.ErrForm"], apart := false, laid := [("paddock/api.ErrForm", laid_paddock_api_ErrForm)], narrowed := true }
def TilesSumsUptoSaid : Prop := tilesSumsUptoRow.holds Tryd.pinned (OpenSpec.upto tilesSumsSpec)

end Rows
end Go.Proofs.YtmeinjkpbijaeaaDoor
