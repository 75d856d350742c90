/-
  errors.Is and paddocknum.Num at the project's own errors, out of what the errors' variables hold.
-/
import Derived.Test.YtmeinjkpbijaeaaKit
import Derived.LaidEql
import Derived.Stop.Asserts
import Derived.RowKitTokens
import Derived.LoopTactic
namespace Go.Proofs.Ytmeinjkpbijaeaa
set_option linter.unusedSimpArgs false
set_option linter.unusedVariables false
open Go.RowKit Go.Extern.Stop Go.Stop Go.Extern Go.Lib

end Go.Proofs.Ytmeinjkpbijaeaa
