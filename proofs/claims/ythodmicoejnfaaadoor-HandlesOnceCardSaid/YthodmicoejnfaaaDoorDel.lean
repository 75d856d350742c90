/-
  append(live[:i], live[i+1:]...) on a row of handles of the call's own.
-/
import Derived.Test.YthodmicoejnfaaaDoorRh
namespace Go.Proofs.YthodmicoejnfaaaDoor
set_option linter.unusedSimpArgs false
set_option linter.unusedVariables false
open Go.RowKit Go.Sort Go.Lib Go.Shelf

section
variable {w : World} {base g n cap : Nat} {l : List Hd}
/-- The front of a row of handles. -/
theorem rowH_front (h : w.ownsRow base 40 2 (.slice (some ⟨g, 0, none⟩) n cap) n (flat encH l)) (hn : n = l.length) (j : Nat) (hj : j ≤ n) :
    w.ownsRow base 40 2 (.slice (some ⟨g, 0, none⟩) j cap) (l.take j).length (flat encH (l.take j)) := by
  have e : (l.take j).length = j := by simp; omega
  rw [e]
  rcases h.2 with ⟨h', _⟩ | ⟨g', cap', cur, e', hb, hh, hc, hm, hs, ht⟩
  · simp at h'
  · simp only [Value.slice.injEq, Option.some.injEq, Addr.mk.injEq, and_true, true_and] at e'
    obtain ⟨rfl, rfl⟩ := e'
    refine ⟨by rw [flat_len lenH, e], .inr ⟨g, cap, cur, rfl, hb, hh, by omega, hm, hs, ?_⟩⟩
    rw [← flat_take lenH, ← ht, List.take_take, Nat.min_eq_left (Nat.mul_le_mul_right 2 hj)]
/-- The tail of a row of handles, to be read; its address as the model spells it. -/
theorem rowH_tail (h : w.ownsRow base 40 2 (.slice (some ⟨g, 0, none⟩) n cap) n (flat encH l)) (hn : n = l.length) (j : Nat) (hj : j ≤ n) :
    Sl encH w (.slice (if cap = j then some ⟨g, 0, none⟩ else some ⟨g, j * 2, none⟩) (n - j) (cap - j)) (l.drop j) := by
  subst hn
  obtain ⟨p, c, e, h1, h2, h3⟩ := row_val h
  simp only [Value.slice.injEq, Option.some.injEq] at e
  obtain ⟨rfl, _, rfl⟩ := e
  by_cases hc : cap = j
  · have hl : l.drop j = [] := List.drop_eq_nil_of_le (by omega)
    rw [hl, if_pos hc, show l.length - j = 0 by omega]
    exact Sl.nil _ _ (by omega)
  · rw [if_neg hc]
    by_cases hz : 0 < l.length
    · obtain ⟨g', e1, hg, _⟩ := h3 hz
      simp only [Option.some.injEq, Addr.mk.injEq, and_true] at e1
      subst e1
      have := sl_drop lenH (w := w) (o := 0) (cap := cap) j hj h1 h2 hg (fun q u hu => by
        have hq := (List.getElem?_eq_some_iff.1 hu).1
        rw [Nat.zero_add, h.cellAt q (by rw [← h.1]; exact hq)]
        exact hu)
      rwa [Nat.zero_add] at this
    · have hl : l.drop j = [] := List.drop_eq_nil_of_le (by omega)
      rw [hl, show l.length - j = 0 by omega]
      exact Sl.nil _ _ (by omega)
end
end Go.Proofs.YthodmicoejnfaaaDoor
