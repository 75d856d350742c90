/-
  What only reads: comparisons of lists (the reference's Same, SamePairs, Has; SameInts, KeptInts), PairLess, order.Pair.
-/
import Derived.Test.YtklpemcchfmdjaaDoorFa
import Derived.Laws.StructEq
import Derived.Shelf.SlSortCmp.QuietGrown
import Derived.Deep.LoopGhost
namespace Go.Proofs.YtklpemcchfmdjaaDoor
set_option linter.unusedSimpArgs false
set_option linter.unusedVariables false
open Go.RowKit Go.Sort Go.Lib Go.Shelf

end Go.Proofs.YtklpemcchfmdjaaDoor
