/-
  A script's calls in memory: a number, a slice of numbers.
-/
import Derived.Test.YtklpemcchfmdjaaDoorOp15
namespace Go.Proofs.YtklpemcchfmdjaaDoor
set_option linter.unusedSimpArgs false
set_option linter.unusedVariables false
open Go.RowKit Go.Sort Go.Lib Go.Shelf

abbrev Opr : Type := Int × Value × List Int
def encR (x : Opr) : List Value := [.int .i64 x.1, x.2.1]
theorem lenR (x : Opr) : (encR x).length = 2 := rfl
end Go.Proofs.YtklpemcchfmdjaaDoor
