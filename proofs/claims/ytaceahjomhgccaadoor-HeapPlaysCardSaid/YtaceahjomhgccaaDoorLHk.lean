/-
  What the walk of HeapPlays needs besides: a heap beside the row that it is held against.
-/
import Derived.Test.YtaceahjomhgccaaDoorLSo
import Derived.Test.YtaceahjomhgccaaDoorOpx10
namespace Go.Proofs.YtaceahjomhgccaaDoor
set_option linter.unusedSimpArgs false
set_option linter.unusedVariables false
open Go.RowKit Go.Sort Go.Lib Go.Shelf

/-- The tail of a slice, its address as the model spells it. -/
theorem SlN.tail {N : Nat → Prop} {w : World} {g o cap : Nat} {l : List Hd} (h : SlN N encH w (.slice (some ⟨g, o, none⟩) l.length cap) l) (j : Nat) (hj : j ≤ l.length) :
    SlN N encH w (.slice (if cap = j then some ⟨g, o, none⟩ else some ⟨g, o + j * 2, none⟩) (l.length - j) (cap - j)) (l.drop j) := by
  obtain ⟨p, c, e, h1, h2, h3⟩ := h
  simp only [Value.slice.injEq, Option.some.injEq] at e
  obtain ⟨rfl, _, rfl⟩ := e
  have e2 : (l.drop j).length = l.length - j := List.length_drop
  refine ⟨_, cap - j, by rw [e2], by rw [e2]; omega, by omega, fun hl => ?_⟩
  rw [e2] at hl
  rw [if_neg (by omega)]
  obtain ⟨g', o', e3, h4, h5, h6⟩ := h3 (by omega)
  simp only [Option.some.injEq, Addr.mk.injEq, and_true] at e3
  obtain ⟨rfl, rfl⟩ := e3
  refine ⟨g, o + j * 2, rfl, h4, h5, fun q u hu => ?_⟩
  rw [← flat_drop lenH, List.getElem?_drop] at hu
  rw [Nat.add_assoc]
  exact h6 _ u hu
/-- What is new since an elder world goes beside the heap. -/
theorem HpO.beside2 {Z : Nat → Prop} {base pa : Nat} {L l : List Hd} {w0 w : World} {v : Value} (h : HpO Z base w0 pa L) (t : RowKit.Below w0.heap.size w0 w) (hv : SlN (fun b => Z b ∨ w0.heap.size ≤ b) encH w v l) :
    HpO (fun b => Z b ∨ (w0.heap.size ≤ b ∧ b < w.heap.size)) base w pa L ∧ SlN (fun b => Z b ∨ (w0.heap.size ≤ b ∧ b < w.heap.size)) encH w v l :=
  ⟨h.off t, by
    obtain ⟨p, cap, rfl, h1, h2, hX⟩ := hv
    exact ⟨p, cap, rfl, h1, h2, fun hl => by obtain ⟨g, o, e, h3, h5, h4⟩ := hX hl; exact ⟨g, o, e, h3, h5.imp id (fun e => ⟨e, h3⟩), h4⟩⟩⟩
theorem SlN.off {N Z : Nat → Prop} {base : Nat} {w w' : World} {v : Value} {l : List Hd} (h : SlN N encH w v l) (t : Tch (OffZ Z base) w w') (hN : ∀ b, N b → Z b) : SlN N encH w' v l := h.kept t (fun b e c => c.2 (hN b e))
theorem three_cells {w : World} {pa : Nat} {a b c : Value} {t : Nat} (h : w.heap[pa]? = some (.cells #[a, b, c] t (0, 0))) : (w.cell? ⟨pa, 0, none⟩ = some a ∧ w.cell? ⟨pa, 1, none⟩ = some b ∧ w.cell? ⟨pa, 2, none⟩ = some c) ∧ w.frozen? ⟨pa, 0, none⟩ = false ∧ w.frozen? ⟨pa, 1, none⟩ = false ∧ w.frozen? ⟨pa, 2, none⟩ = false := by
  simp [World.cell?, World.frozen?, h]
end Go.Proofs.YtaceahjomhgccaaDoor
