/-
  The comparisons: cmp.Compare, cmp.Or, order.compare, order.comparePairs, order.Less, and the reference's Less and PairLess.
-/
import Derived.Test.YtklpemcchfmdjaaDoorAp11
namespace Go.Proofs.YtklpemcchfmdjaaDoor
set_option linter.unusedSimpArgs false
set_option linter.unusedVariables false
open Go.RowKit Go.Sort Go.Lib Go.Shelf


theorem isNaN_any (x : Int) (w : World) : Calls Tryd.prog 69 #[.int .i64 x] w fun e w' => e = .returned (.bool false) ∧ w' = w := by
  go_enter Tryd.func69, Tryd.ntmps69
  go_wp2
  go_ret
  exact ⟨by simp, rfl⟩

end Go.Proofs.YtklpemcchfmdjaaDoor
