/-
  The comparisons: cmp.Compare, cmp.Or, order.compare, order.comparePairs, order.Less, and the reference's Less and PairLess.
-/
import Derived.Test.YtmeinjkpbijaeaaAp11
namespace Go.Proofs.Ytmeinjkpbijaeaa
set_option linter.unusedSimpArgs false
set_option linter.unusedVariables false
open Go.RowKit Go.Sort Go.Lib Go.Shelf


end Go.Proofs.Ytmeinjkpbijaeaa
