/-
  schema.wrong, compare, rising, Drop's closure; Find in the program and in the reference.
-/
import Derived.Test.YtaehendpdfpibaaDoorVd
namespace Go.Proofs.YtaehendpdfpibaaDoor
set_option linter.unusedSimpArgs false
set_option linter.unusedVariables false
open Go.RowKit Go.Sort Go.Lib Go.Shelf

def wrongB (x : Vl) : Bool := !(chk x == 0)
def cmpV (x y : Vl) : Int := Lib.compareInt x.1 y.1
end Go.Proofs.YtaehendpdfpibaaDoor
