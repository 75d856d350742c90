/-
  Find in the program and in the reference: the first component of a kind.
-/
import Derived.Test.YtaehendpdfpibaaDoorVe
namespace Go.Proofs.YtaehendpdfpibaaDoor
set_option linter.unusedSimpArgs false
set_option linter.unusedVariables false
open Go.RowKit Go.Sort Go.Lib Go.Shelf

/-- A store into a block that is new since a. -/
theorem Gr.set {a w : World} (h : Gr a w) {p : Addr} (hp : a.heap.size ≤ p.block) (u : Value) : Gr a (w.setCell p u) := by
  obtain ⟨q, os, rfl⟩ := h
  refine ⟨q, os.modify (p.block - a.heap.size) (fun | .cells c elem fr => .cells (if p.spot.isSome then c else c.setIfInBounds p.off u) elem fr | o => o), ?_⟩
  have e : ∀ (f : Obj → Obj) (A B : Array Obj) (i : Nat), A.size ≤ i → (A ++ B).modify i f = A ++ B.modify (i - A.size) f := fun f A B i hi => by
    apply Array.ext
    · simp
    · intro j h1 h2
      simp only [Array.getElem_modify, Array.getElem_append]
      split
      · rename_i hij
        subst hij
        rw [dif_neg (by omega), dif_neg (by omega)]; simp
      · rename_i hij
        split
        · rfl
        · simp; omega
  show World.setCell _ p u = _
  unfold World.setCell Sort.grow
  simp only
  congr 1
  exact e _ _ _ _ hp

def fndV (l : List Vl) (k : Int) : Vl := (findV l k).getD (0, 0, 0)
def hasK (l : List Vl) (k : Int) : Bool := (findV l k).isSome


end Go.Proofs.YtaehendpdfpibaaDoor
