/-
  Of no program: what AxisSweeps asks of the pairs: does one of them join two handles; a box taken away.
-/
import Derived.Test.YtbodefigeiaodaaDoorOr11
import Derived.Test.YtbodefigeiaodaaDoorSw11
import Derived.Test.YtbodefigeiaodaaDoorSd11
namespace Go.Proofs.YtbodefigeiaodaaDoor
set_option linter.unusedSimpArgs false
set_option linter.unusedVariables false

theorem rright_boxB (a b c d : Int) : rrightB a b c d = boxB (a, b, c, d) := by
  unfold rrightB boxB rightB
  simp only [inB, reachB, bothB, btw]
  rw [Bool.eq_iff_iff]
  simp only [Bool.and_eq_true, decide_eq_true_eq]
  omega
/-- Does one of the first j pairs join x and o? -/
def metB (L : List Pr) (x o : Hd) (j : Nat) : Bool := (L.take j).any fun p => (decide (p.1 = x) && decide (p.2 = o)) || (decide (p.2 = x) && decide (p.1 = o))
theorem metB_zero (L : List Pr) (x o : Hd) : metB L x o 0 = false := rfl
theorem metB_step {L : List Pr} {j : Nat} (hj : j < L.length) (x o : Hd) : metB L x o (j + 1) = (metB L x o j || ((decide (L[j]!.1 = x) && decide (L[j]!.2 = o)) || (decide (L[j]!.2 = x) && decide (L[j]!.1 = o)))) := by
  unfold metB
  rw [List.take_succ_eq_append_getElem hj, List.any_append, getElem!_pos L j hj]
  simp
theorem metB_end (B : List Bxd) (x o : Hd) : metB (pairsB B) x o (pairsB B).length = meetB B x o := by
  rw [Bool.eq_iff_iff]
  unfold metB meetB
  rw [List.take_length, List.any_eq_true, Bool.and_eq_true, decide_eq_true_eq, decide_eq_true_eq, mem_allX]
  constructor
  · rintro ⟨p, hp, h⟩
    obtain ⟨a, ha, b, hb, hne, hm, e⟩ := (mem_pairsB B p).1 hp
    have hn : p.1 ≠ p.2 := by rw [e]; exact norm_ne hne
    have hpp : norm (p.1, p.2) = p := by rw [e]; exact norm_norm hne
    simp only [Bool.or_eq_true, Bool.and_eq_true, decide_eq_true_eq] at h
    rcases h with ⟨rfl, rfl⟩ | ⟨rfl, rfl⟩
    · exact ⟨hn, a, ha, b, hb, hne, hm, by rw [hpp, e]⟩
    · exact ⟨fun q => hn q.symm, a, ha, b, hb, hne, hm, by rw [norm_comm _ _ (fun q => hn q.symm), hpp, e]⟩
  · rintro ⟨hne, h⟩
    refine ⟨norm (x, o), (mem_pairsB B _).2 h, ?_⟩
    rcases norm_set x o with e | e <;> rw [e] <;> simp
theorem meetB_comm (B : List Bxd) (x o : Hd) : meetB B o x = meetB B x o := by
  unfold meetB
  by_cases h : x = o
  · subst h
    rfl
  · rw [norm_comm o x (fun q => h q.symm)]
    congr 1
    rw [Bool.eq_iff_iff]
    simp only [decide_eq_true_eq]
    exact ⟨fun q e => q e.symm, fun q e => q e.symm⟩
/-- A handle is not held, or its box goes. -/
theorem woB_cases {B : List Bxd} (ho : OnceB B) (h : Hd) : (spF (B.map xsp) h = none ∧ woB B h = B) ∨ ∃ b : Bx4, (h, b) ∈ B ∧ (woB B h).length + 1 = B.length := by
  cases hq : spF (B.map xsp) h with
  | none => exact .inl ⟨rfl, woB_none hq⟩
  | some s =>
    obtain ⟨x, hx, e⟩ := List.mem_map.1 (spF_some hq)
    obtain ⟨h', b⟩ := x
    have e1 : h' = h := congrArg Prod.fst e
    subst e1
    have h1 := without_one ho.x (s := xsp (h', b)) (List.mem_map.2 ⟨_, hx, rfl⟩)
    have h2 := congrArg List.length (woB_x B h')
    rw [List.length_map] at h1 h2
    exact .inr ⟨b, hx, by show (woB B h').length + 1 = B.length; rw [h2]; exact h1⟩
end Go.Proofs.YtbodefigeiaodaaDoor
