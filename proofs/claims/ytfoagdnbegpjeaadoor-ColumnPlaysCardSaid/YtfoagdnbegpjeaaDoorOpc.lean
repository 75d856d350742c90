/-
  The statements' calls (Op) in memory: kind, place, number, list.
-/
import Derived.Test.YtfoagdnbegpjeaaDoorEnc
namespace Go.Proofs.YtfoagdnbegpjeaaDoor
set_option linter.unusedSimpArgs false
set_option linter.unusedVariables false
open Go.RowKit Go.Sort Go.Lib Go.Shelf

/-- A call: its kind, its place, its number, its slice, the list that this holds. -/
abbrev Opc := Int × Int × Int × Value × List Int
def encO (x : Opc) : List Value := [.int .i64 x.1, .int .i64 x.2.1, .int .i64 x.2.2.1, x.2.2.2.1]
theorem lenO (x : Opc) : (encO x).length = 4 := rfl
theorem atO {w : World} {l : List Opc} {g o : Nat} (h : ∀ j u, (flat encO l)[j]? = some u → w.cell? ⟨g, o + j, none⟩ = some u) {i : Nat} (hi : i < l.length) :
    w.cell? ⟨g, o + i * 4, none⟩ = some (.int .i64 l[i]!.1) ∧ w.cell? ⟨g, o + i * 4 + 1, none⟩ = some (.int .i64 l[i]!.2.1) ∧ w.cell? ⟨g, o + i * 4 + 2, none⟩ = some (.int .i64 l[i]!.2.2.1) ∧ w.cell? ⟨g, o + i * 4 + 3, none⟩ = some l[i]!.2.2.2.1 :=
  ⟨sl_at lenO h hi 0 _ rfl, sl_at lenO h hi 1 _ rfl, sl_at lenO h hi 2 _ rfl, sl_at lenO h hi 3 _ rfl⟩
end Go.Proofs.YtfoagdnbegpjeaaDoor
