/-
  The calls of a script in memory: kind, number, entries.
-/
import Derived.Test.YtaceahjomhgccaaDoorMg10
namespace Go.Proofs.YtaceahjomhgccaaDoor
set_option linter.unusedSimpArgs false
set_option linter.unusedVariables false
open Go.RowKit Go.Sort Go.Lib Go.Shelf

/-- Kind, N, the slice of entries and what it holds. -/
abbrev Opx := Int × Int × Value × List Hd
def encX (x : Opx) : List Value := [.int .i64 x.1, .int .i64 x.2.1, x.2.2.1]
theorem lenX (x : Opx) : (encX x).length = 3 := rfl
theorem atX {w : World} {l : List Opx} {g o : Nat} (h : ∀ j u, (flat encX l)[j]? = some u → w.cell? ⟨g, o + j, none⟩ = some u) {i : Nat} (hi : i < l.length) :
    w.cell? ⟨g, o + i * 3, none⟩ = some (.int .i64 l[i]!.1) ∧ w.cell? ⟨g, o + i * 3 + 1, none⟩ = some (.int .i64 l[i]!.2.1) ∧ w.cell? ⟨g, o + i * 3 + 2, none⟩ = some l[i]!.2.2.1 :=
  ⟨sl_at lenX h hi 0 _ rfl, sl_at lenX h hi 1 _ rfl, sl_at lenX h hi 2 _ rfl⟩
end Go.Proofs.YtaceahjomhgccaaDoor
