/-
  Appends at handles, pairs, ends; ends in memory.
-/
import Derived.Test.YtklpemcchfmdjaaDoorRow6
import Derived.Test.YtklpemcchfmdjaaDoorPa11
namespace Go.Proofs.YtklpemcchfmdjaaDoor
set_option linter.unusedSimpArgs false
set_option linter.unusedVariables false
open Go.RowKit Go.Sort Go.Lib Go.Shelf

/-- An end's four cells. -/
def encE (e : En) : List Value := [.int .i64 e.1, .bool e.2.1, .int .i64 e.2.2.1, .int .i64 e.2.2.2]
theorem lenE (e : En) : (encE e).length = 4 := rfl
theorem oneE (e : En) : ∀ v ∈ encE e, v.oneCell' = true := fun v hv => by simp [encE] at hv; rcases hv with rfl | rfl | rfl | rfl <;> rfl
def aggE (e : En) : Value := .agg #[.int .i64 e.1, .bool e.2.1, .int .i64 e.2.2.1, .int .i64 e.2.2.2]
theorem atE {w : World} {l : List En} {g o : Nat} (h : ∀ j u, (flat encE l)[j]? = some u → w.cell? ⟨g, o + j, none⟩ = some u) {i : Nat} (hi : i < l.length) :
    w.cell? ⟨g, o + i * 4, none⟩ = some (.int .i64 l[i]!.1) ∧ w.cell? ⟨g, o + i * 4 + 1, none⟩ = some (.bool l[i]!.2.1) ∧ w.cell? ⟨g, o + i * 4 + 2, none⟩ = some (.int .i64 l[i]!.2.2.1) ∧ w.cell? ⟨g, o + i * 4 + 3, none⟩ = some (.int .i64 l[i]!.2.2.2) :=
  ⟨sl_at lenE h hi 0 _ rfl, sl_at lenE h hi 1 _ rfl, sl_at lenE h hi 2 _ rfl, sl_at lenE h hi 3 _ rfl⟩
end Go.Proofs.YtklpemcchfmdjaaDoor
