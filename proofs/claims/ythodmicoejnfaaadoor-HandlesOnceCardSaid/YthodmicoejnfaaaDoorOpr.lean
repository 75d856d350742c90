/-
  The statements' calls (Op) in memory: kind, number, handle.
-/
import Derived.Test.YthodmicoejnfaaaDoorPm
namespace Go.Proofs.YthodmicoejnfaaaDoor
set_option linter.unusedSimpArgs false
set_option linter.unusedVariables false
open Go.RowKit Go.Sort Go.Lib Go.Shelf

/-- A call: its kind, its number, its handle. -/
abbrev Opr := Int × Int × Hd
def encO (x : Opr) : List Value := [.int .i64 x.1, .int .i64 x.2.1, .int .i64 x.2.2.1, .int .i64 x.2.2.2]
theorem lenO (x : Opr) : (encO x).length = 4 := rfl
theorem atO {w : World} {l : List Opr} {g o : Nat} (h : ∀ j u, (flat encO l)[j]? = some u → w.cell? ⟨g, o + j, none⟩ = some u) {i : Nat} (hi : i < l.length) :
    w.cell? ⟨g, o + i * 4, none⟩ = some (.int .i64 l[i]!.1) ∧ w.cell? ⟨g, o + i * 4 + 1, none⟩ = some (.int .i64 l[i]!.2.1) ∧ w.cell? ⟨g, o + i * 4 + 2, none⟩ = some (.int .i64 l[i]!.2.2.1) ∧ w.cell? ⟨g, o + i * 4 + 3, none⟩ = some (.int .i64 l[i]!.2.2.2) :=
  ⟨sl_at lenO h hi 0 _ rfl, sl_at lenO h hi 1 _ rfl, sl_at lenO h hi 2 _ rfl, sl_at lenO h hi 3 _ rfl⟩
end Go.Proofs.YthodmicoejnfaaaDoor
