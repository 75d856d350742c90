/-
  Check in the program and in the reference; what is wrong, the order by kind, rising.
-/
import Derived.Test.YtaehendpdfpibaaDoorVk
namespace Go.Proofs.YtaehendpdfpibaaDoor
set_option linter.unusedSimpArgs false
set_option linter.unusedVariables false
open Go.RowKit Go.Sort Go.Lib Go.Shelf

theorem rngV_parts (k : Int) : ∃ a1 a2 b1 b2, rngV k = ((a1, a2), (b1, b2)) := ⟨_, _, _, _, rfl⟩

end Go.Proofs.YtaehendpdfpibaaDoor
