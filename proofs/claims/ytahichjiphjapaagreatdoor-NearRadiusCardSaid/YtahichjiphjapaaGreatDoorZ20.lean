import Derived.Test.YtahichjiphjapaaGreatDoorZ21
import Derived.Test.YtahichjiphjapaaGreatDoorZ4

/-
  A script's calls in memory.
-/
namespace Go.Proofs.YtahichjiphjapaaGreatDoor
set_option linter.unusedSimpArgs false
set_option linter.unusedVariables false
open Go.RowKit Go.Sort Go.Lib Go.Shelf

def encX (b : Bx4) : List Value := [.int .i64 b.1, .int .i64 b.2.1, .int .i64 b.2.2.1, .int .i64 b.2.2.2]
theorem lenX (b : Bx4) : (encX b).length = 4 := rfl
theorem atX {w : World} {l : List Bx4} {g o : Nat} (h : ∀ j u, (flat encX l)[j]? = some u → w.cell? ⟨g, o + j, none⟩ = some u) {i : Nat} (hi : i < l.length) :
    w.cell? ⟨g, o + i * 4, none⟩ = some (.int .i64 l[i]!.1) ∧ w.cell? ⟨g, o + i * 4 + 1, none⟩ = some (.int .i64 l[i]!.2.1) ∧ w.cell? ⟨g, o + i * 4 + 2, none⟩ = some (.int .i64 l[i]!.2.2.1) ∧ w.cell? ⟨g, o + i * 4 + 3, none⟩ = some (.int .i64 l[i]!.2.2.2) :=
  ⟨sl_at lenX h hi 0 _ rfl, sl_at lenX h hi 1 _ rfl, sl_at lenX h hi 2 _ rfl, sl_at lenX h hi 3 _ rfl⟩
/-- A call of a script: kind, handle, box, the box that is asked. -/
abbrev Opq := Int × Hd × Bx4 × Bx4
def encO (x : Opq) : List Value := [.int .i64 x.1, .int .i64 x.2.1.1, .int .i64 x.2.1.2, .int .i64 x.2.2.1.1, .int .i64 x.2.2.1.2.1, .int .i64 x.2.2.1.2.2.1, .int .i64 x.2.2.1.2.2.2, .int .i64 x.2.2.2.1, .int .i64 x.2.2.2.2.1, .int .i64 x.2.2.2.2.2.1, .int .i64 x.2.2.2.2.2.2]
theorem lenO (x : Opq) : (encO x).length = 11 := rfl
theorem atO {w : World} {l : List Opq} {g o : Nat} (h : ∀ j u, (flat encO l)[j]? = some u → w.cell? ⟨g, o + j, none⟩ = some u) {i : Nat} (hi : i < l.length) :
    w.cell? ⟨g, o + i * 11, none⟩ = some (.int .i64 l[i]!.1) ∧ w.cell? ⟨g, o + i * 11 + 1, none⟩ = some (.int .i64 l[i]!.2.1.1) ∧ w.cell? ⟨g, o + i * 11 + 2, none⟩ = some (.int .i64 l[i]!.2.1.2) ∧
    w.cell? ⟨g, o + i * 11 + 3, none⟩ = some (.int .i64 l[i]!.2.2.1.1) ∧ w.cell? ⟨g, o + i * 11 + 4, none⟩ = some (.int .i64 l[i]!.2.2.1.2.1) ∧ w.cell? ⟨g, o + i * 11 + 5, none⟩ = some (.int .i64 l[i]!.2.2.1.2.2.1) ∧ w.cell? ⟨g, o + i * 11 + 6, none⟩ = some (.int .i64 l[i]!.2.2.1.2.2.2) ∧
    w.cell? ⟨g, o + i * 11 + 7, none⟩ = some (.int .i64 l[i]!.2.2.2.1) ∧ w.cell? ⟨g, o + i * 11 + 8, none⟩ = some (.int .i64 l[i]!.2.2.2.2.1) ∧ w.cell? ⟨g, o + i * 11 + 9, none⟩ = some (.int .i64 l[i]!.2.2.2.2.2.1) ∧ w.cell? ⟨g, o + i * 11 + 10, none⟩ = some (.int .i64 l[i]!.2.2.2.2.2.2) :=
  ⟨sl_at lenO h hi 0 _ rfl, sl_at lenO h hi 1 _ rfl, sl_at lenO h hi 2 _ rfl, sl_at lenO h hi 3 _ rfl, sl_at lenO h hi 4 _ rfl, sl_at lenO h hi 5 _ rfl, sl_at lenO h hi 6 _ rfl, sl_at lenO h hi 7 _ rfl, sl_at lenO h hi 8 _ rfl, sl_at lenO h hi 9 _ rfl, sl_at lenO h hi 10 _ rfl⟩
end Go.Proofs.YtahichjiphjapaaGreatDoor
