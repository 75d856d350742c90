/-
  A call of TablePlays' script in memory: nine cells.
-/
import Derived.Test.YtknfmjjlfhfocaaDoorVk
namespace Go.Proofs.YtknfmjjlfhfocaaDoor
set_option linter.unusedSimpArgs false
set_option linter.unusedVariables false
open Go.RowKit Go.Sort Go.Lib Go.Shelf
/-- Kind, I, N; the handle; the row, as a value and what it holds; the component. -/
abbrev Opq := (Int × Int × Int) × Hd × (Value × List Vl) × Vl
instance : Inhabited Value := ⟨.nilIface⟩
def encO (o : Opq) : List Value := [.int .i64 o.1.1, .int .i64 o.1.2.1, .int .i64 o.1.2.2, .int .i64 o.2.1.1, .int .i64 o.2.1.2, o.2.2.1.1, .int .i64 o.2.2.2.1, .int .i64 o.2.2.2.2.1, .int .i64 o.2.2.2.2.2]
theorem lenO (o : Opq) : (encO o).length = 9 := rfl
end Go.Proofs.YtknfmjjlfhfocaaDoor
