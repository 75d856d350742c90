/-
  What the walks over heaps need besides: rows of yes and no; a row's tail; an entry taken out of a row.
-/
import Derived.Test.YtaceahjomhgccaaDoorOw10
import Derived.Deep.LoopGhost
namespace Go.Proofs.YtaceahjomhgccaaDoor
set_option linter.unusedSimpArgs false
set_option linter.unusedVariables false
open Go.RowKit Go.Sort Go.Lib Go.Shelf

def encB (b : Bool) : List Value := [.bool b]
theorem lenB (b : Bool) : (encB b).length = 1 := rfl
theorem atB {w : World} {l : List Bool} {g o : Nat} (h : ∀ j u, (flat encB l)[j]? = some u → w.cell? ⟨g, o + j, none⟩ = some u) {i : Nat} (hi : i < l.length) : w.cell? ⟨g, o + i, none⟩ = some (.bool l[i]!) :=
  sl_cell1 (c := Value.bool) (fun _ => rfl) h hi

section
variable {w : World} {base et g n cap : Nat} {l : List Hd}
/-- The tail of a row of entries, to be read; its address as the model spells it. -/
theorem rowE_tail (h : w.ownsRow base et 2 (.slice (some ⟨g, 0, none⟩) n cap) n (flat encH l)) (hn : n = l.length) (j : Nat) (hj : j ≤ n) :
    Sl encH w (.slice (if cap = j then some ⟨g, 0, none⟩ else some ⟨g, j * 2, none⟩) (n - j) (cap - j)) (l.drop j) := by
  subst hn
  obtain ⟨p, c, e, h1, h2, h3⟩ := row_val h
  simp only [Value.slice.injEq, Option.some.injEq] at e
  obtain ⟨rfl, _, rfl⟩ := e
  by_cases hc : cap = j
  · have hl : l.drop j = [] := List.drop_eq_nil_of_le (by omega)
    rw [hl, if_pos hc, show l.length - j = 0 by omega]
    exact Sl.nil _ _ (by omega)
  · rw [if_neg hc]
    by_cases hz : 0 < l.length
    · obtain ⟨g', e1, hg, _⟩ := h3 hz
      simp only [Option.some.injEq, Addr.mk.injEq, and_true] at e1
      subst e1
      have := sl_drop lenH (w := w) (o := 0) (cap := cap) j hj h1 h2 hg (fun q u hu => by
        have hq := (List.getElem?_eq_some_iff.1 hu).1
        rw [Nat.zero_add, h.cellAt q (by rw [← h.1]; exact hq)]
        exact hu)
      rwa [Nat.zero_add] at this
    · have hl : l.drop j = [] := List.drop_eq_nil_of_le (by omega)
      rw [hl, show l.length - j = 0 by omega]
      exact Sl.nil _ _ (by omega)
end
theorem erase_split {α : Type} (l : List α) (m : Nat) : l.take m ++ l.drop (m + 1) = l.eraseIdx m := (List.eraseIdx_eq_take_drop_succ l m).symm
theorem erase_perm {α : Type} [Inhabited α] (l : List α) (m : Nat) (h : m < l.length) : l.Perm (l[m]! :: l.eraseIdx m) := by
  have e : l = l.take m ++ l[m]! :: l.drop (m + 1) := by
    rw [getElem!_pos l m h, List.getElem_cons_drop h, List.take_append_drop]
  rw [← erase_split]
  generalize l[m]! = x at *
  conv => lhs; rw [e]
  exact List.perm_middle
/-- A heap of the call's own goes on beside a row that has been appended to. -/
theorem HpO.grown {base pa et k n : Nat} {L : List Hd} {w w' : World} {v v' : Value} {xs : List Value} (h : HpO (fun b => v.ownBlock = some b) base w pa L) (hr : w'.ownsRow base et k v' n xs) (hg : w.grownBy w' v.ownBlock) (hat : v'.ownBlock = v.ownBlock ∨ v'.ownBlock = some w.heap.size) :
    HpO (fun b => v'.ownBlock = some b) base w' pa L := by
  refine h.turn (w' := w') (Tch.grown hg (fun g hg => hg)) (fun b hb => ⟨?_, row_lt hr hb⟩)
  rcases hat with e | e
  · exact .inl (by rw [← e]; exact hb)
  · rw [e] at hb
    simp only [Option.some.injEq] at hb
    exact .inr (.inr (by omega))
end Go.Proofs.YtaceahjomhgccaaDoor
