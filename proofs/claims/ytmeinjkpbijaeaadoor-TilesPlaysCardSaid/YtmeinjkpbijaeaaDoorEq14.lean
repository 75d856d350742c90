/-
  Points and grids compared; what the laws of tiles have in common.
-/
import Derived.Test.YtmeinjkpbijaeaaDoorSi14
import Derived.Test.YtmeinjkpbijaeaaDoorTb14
import Derived.Laws.StructEq
namespace Go.Proofs.YtmeinjkpbijaeaaDoor
set_option linter.unusedSimpArgs false
set_option linter.unusedVariables false
open Go.RowKit Go.Sort Go.Lib Go.Shelf

theorem eqPt_same (a b : Int) (w : World) : Sem.run Tryd.prog (binOp .eql 25 (.agg #[.int .i64 a, .int .i64 b]) (.agg #[.int .i64 a, .int .i64 b])) w = .ok (.bool true) w := by
  have u3 := Tryd.underlying3
  have a3 := Tryd.isAgg3
  have z3 := Tryd.sizeOf3
  have hS : Tryd.prog.underlying 25 = some (.struct (Tryd.prog.fieldsOf 25)) := by kernel_rfl
  have hp : Tryd.prog.stoodInHeld 25 = false := by kernel_rfl
  rw [run_eql_struct, show (10000 : Nat) = 9999 + 1 from rfl, run_equalIn_agg w 9999 25 _ _ hS hp]
  simp only [Program.fieldsOf, Tryd.underlying25]
  go_simp
theorem gdPt_run (op : BinOp) (a b : Operand) (xs ys : Array Value) (w : World) : Sem.run Tryd.prog (eqGuard op 25 a b (.agg xs) (.agg ys)) w = .ok () w :=
  run_eqGuard_agg w op 25 a b xs ys (by kernel_rfl)
/-- A grid's block, kept. -/
def GrAt (w : World) (b : Nat) (g : Gd) : Prop := w.heap[b]? = some (.cells #[.int .i64 g.w, .int .i64 g.h, .int .i64 g.s, .int .i64 g.x, .int .i64 g.y] 23 (0, 0))
theorem GrAt.lt {w : World} {b : Nat} {g : Gd} (h : GrAt w b g) : b < w.heap.size := (Array.getElem?_eq_some_iff.1 h).1
theorem GrAt.below {w w' : World} {b : Nat} {g : Gd} (h : GrAt w b g) (k : RowKit.Below w.heap.size w w') : GrAt w' b g := blk_below h k
theorem GrAt.kept {w w' : World} {b : Nat} {g : Gd} {M : Nat → Prop} (h : GrAt w b g) (t : Tch M w w') (hn : ¬ M b) : GrAt w' b g := t.blk h hn
theorem GrAt.cells {w : World} {b : Nat} {g : Gd} (h : GrAt w b g) : w.cell? ⟨b, 0, none⟩ = some (.int .i64 g.w) ∧ w.cell? ⟨b, 1, none⟩ = some (.int .i64 g.h) ∧ w.cell? ⟨b, 2, none⟩ = some (.int .i64 g.s) ∧ w.cell? ⟨b, 3, none⟩ = some (.int .i64 g.x) ∧ w.cell? ⟨b, 4, none⟩ = some (.int .i64 g.y) := cells5 h
theorem grAt_new (w : World) (g : Gd) : GrAt (w.alloc (.cells #[.int .i64 g.w, .int .i64 g.h, .int .i64 g.s, .int .i64 g.x, .int .i64 g.y] 23)) w.heap.size g := heap_alloc_new w _
end Go.Proofs.YtmeinjkpbijaeaaDoor
