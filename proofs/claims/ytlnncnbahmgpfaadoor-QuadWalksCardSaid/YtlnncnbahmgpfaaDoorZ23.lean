import Derived.Test.YtlnncnbahmgpfaaDoorZ2
import Derived.Test.YtlnncnbahmgpfaaDoorZ0

/-
  The reference's PutHandle and Handles: a rising list with a handle; handles rising, each once.
-/
namespace Go.Proofs.YtlnncnbahmgpfaaDoor
set_option linter.unusedSimpArgs false
set_option linter.unusedVariables false
open Go.RowKit Go.Sort Go.Lib Go.Shelf

theorem headLess_step {α : Type} [Inhabited α] {lt : α → α → Bool} {x : α} : ∀ {l : List α} {k : Nat}, k ≤ headLess lt x l → k < l.length → (lt l[k]! x = true → k + 1 ≤ headLess lt x l) ∧ (lt l[k]! x = false → k = headLess lt x l)
  | [], _, _, h => absurd h (Nat.not_lt_zero _)
  | y :: r, 0, _, _ => by
    unfold headLess
    constructor
    · intro h; simp at h; simp [h]
    · intro h; simp at h; simp [h]
  | y :: r, k + 1, h1, h2 => by
    unfold headLess at h1 ⊢
    by_cases hy : lt y x = true
    · rw [if_pos hy] at h1 ⊢
      have ih := headLess_step (lt := lt) (x := x) (l := r) (k := k) (by omega) (by simpa using h2)
      constructor
      · intro h; have := ih.1 (by simpa using h); omega
      · intro h; have := ih.2 (by simpa using h); omega
    · rw [if_neg hy] at h1; omega

end Go.Proofs.YtlnncnbahmgpfaaDoor
