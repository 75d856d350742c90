/-
  A row of handles of the call's own: its cells; one of them stored.
-/
import Derived.Test.YthodmicoejnfaaaDoorSt
import Derived.IntWalk
namespace Go.Proofs.YthodmicoejnfaaaDoor
set_option linter.unusedSimpArgs false
set_option linter.unusedVariables false
open Go.RowKit Go.Sort Go.Lib Go.Shelf

/-- An index out of any number: int(uint(n) % uint(len)). -/
theorem idx_any (n : Int) (l : Nat) (h0 : 0 < l) (h1 : l ≤ 9223372036854775807) : ∃ m : Nat, m < l ∧ wrap64 ((IntKind.u64.wrap n).tmod (l : Int)) = (m : Int) := by
  have hu : 0 ≤ IntKind.u64.wrap n := by
    unfold IntKind.wrap
    simp [IntKind.signed, IntKind.bits]
    omega
  have e : (IntKind.u64.wrap n).tmod (l : Int) = IntKind.u64.wrap n % (l : Int) := Int.tmod_eq_emod_of_nonneg hu
  have h2 : 0 ≤ IntKind.u64.wrap n % (l : Int) := Int.emod_nonneg _ (by omega)
  have h3 : IntKind.u64.wrap n % (l : Int) < l := Int.emod_lt_of_pos _ (by omega)
  refine ⟨(IntKind.u64.wrap n % (l : Int)).toNat, by omega, ?_⟩
  rw [e, IntWalk.wrap64_in _ ⟨by omega, by omega⟩]
  omega
section
variable {w : World} {base g n cap : Nat} {l : List Hd}
theorem row_cellsH (h : w.ownsRow base 40 2 (.slice (some ⟨g, 0, none⟩) n cap) n (flat encH l)) : ∀ k, k < l.length → w.cell? ⟨g, k * 2, none⟩ = some (.int .i64 l[k]!.1) ∧ w.cell? ⟨g, k * 2 + 1, none⟩ = some (.int .i64 l[k]!.2) := fun k hk => by
  have hc : ∀ j u, (flat encH l)[j]? = some u → w.cell? ⟨g, 0 + j, none⟩ = some u := fun j u hu => by
    have hj := (List.getElem?_eq_some_iff.1 hu).1
    rw [Nat.zero_add, h.cellAt j (by rw [← h.1]; exact hj)]
    exact hu
  have := atH hc hk
  simpa using this
theorem flatH_set (l : List Hd) (m : Nat) (hm : m < l.length) (a b : Int) : ((flat encH l).set (m * 2) (.int .i64 a)).set (m * 2 + 1) (.int .i64 b) = flat encH (l.set m (a, b)) := by
  apply List.ext_getElem?
  intro j
  rcases Nat.lt_or_ge j (l.length * 2) with hj | hj
  · have e : j / 2 * 2 + j % 2 = j := by omega
    have h1 := flat_get lenH l (j / 2) (j % 2) (by omega) (by omega)
    have h2 := flat_get lenH (l.set m (a, b)) (j / 2) (j % 2) (by simp; omega) (by omega)
    rw [e] at h1 h2
    have hs : (l.set m (a, b))[j / 2]! = if j / 2 = m then (a, b) else l[j / 2]! := by
      simp only [List.getElem!_eq_getElem?_getD, List.getElem?_set]
      by_cases h : m = j / 2
      · rw [if_pos h, if_pos (by omega), if_pos h.symm]; rfl
      · rw [if_neg h, if_neg (fun h' => h h'.symm)]
    rw [h2, hs, List.getElem?_set, List.getElem?_set, List.length_set, flat_len lenH]
    by_cases h0 : j = m * 2
    · subst h0
      rw [if_neg (by omega), if_pos rfl, if_pos (by omega), if_pos (by omega), show m * 2 % 2 = 0 by omega]
      rfl
    · by_cases h1' : j = m * 2 + 1
      · subst h1'
        rw [if_pos rfl, if_pos (by omega), if_pos (by omega), show (m * 2 + 1) % 2 = 1 by omega]
        rfl
      · rw [if_neg (by omega), if_neg (by omega), if_neg (by omega)]
        exact h1
  · rw [List.getElem?_eq_none (by simp [flat_len lenH]; omega), List.getElem?_eq_none (by simp [flat_len lenH]; omega)]
/-- A handle stored in a row of one's own. -/
theorem rowH_set (h : w.ownsRow base 40 2 (.slice (some ⟨g, 0, none⟩) n cap) n (flat encH l)) {m : Nat} (hm : m < l.length) (a b : Int) :
    ((w.setCell ⟨g, m * 2, none⟩ (.int .i64 a)).setCell ⟨g, m * 2 + 1, none⟩ (.int .i64 b)).ownsRow base 40 2 (.slice (some ⟨g, 0, none⟩) n cap) n (flat encH (l.set m (a, b))) := by
  have h1 := (h.stored (m * 2) (.int .i64 a)).1
  have h2 := (h1.stored (m * 2 + 1) (.int .i64 b)).1
  rw [flatH_set l m hm] at h2
  exact h2
theorem PoolX.setH {T pa b0 : Nat} {X : Nat → Prop} {S : List Slt} {Fr : List Int} (hp : PoolX T b0 X w pa S Fr) (hT : T ≠ 40) (h : w.ownsRow base 40 2 (.slice (some ⟨g, 0, none⟩) n cap) n (flat encH l)) (m : Nat) (a b : Value) :
    PoolX T b0 X ((w.setCell ⟨g, m * 2, none⟩ a).setCell ⟨g, m * 2 + 1, none⟩ b) pa S Fr := by
  have hn : ¬ PT T 40 := fun e => by
    rcases e with e | e | e
    · exact hT e.symm
    · exact absurd e (by decide)
    · exact absurd e (by decide)
  obtain ⟨c, hc⟩ := row_type h (g := g) rfl
  obtain ⟨c2, hc2⟩ := row_type (h.stored (m * 2) a).1 (g := g) rfl
  exact (hp.set (p := ⟨g, m * 2, none⟩) hc hn a).set (p := ⟨g, m * 2 + 1, none⟩) hc2 hn b
end
end Go.Proofs.YthodmicoejnfaaaDoor
