import Derived.Test.YtlnncnbahmgpfaaDoorZ3
import Derived.Test.YtlnncnbahmgpfaaDoorZ23
import Derived.Deep.RegionLaw

/-
  The reference: Nodes.
-/
namespace Go.Proofs.YtlnncnbahmgpfaaDoor
set_option linter.unusedSimpArgs false
set_option linter.unusedVariables false
open Go.RowKit Go.Sort Go.Lib Go.Shelf

/-! ### Cells in order: how far those below a cell reach; whether it is there. -/
def belowC (c : Cl) (L : List Cl) (j : Nat) : Nat := min j (headLess ltC c L)
def hasC (c : Cl) (L : List Cl) (j : Nat) : Bool := (L.take j).any fun z => decide (z = c)
theorem belowC_lt {c : Cl} {L : List Cl} (hr : Rise ltC L) {j : Nat} (hj : j < L.length) (h : ltC L[j]! c = true) : belowC c L (j + 1) = j + 1 := by
  unfold belowC
  rcases Nat.lt_or_ge j (headLess ltC c L) with q | q
  · omega
  · have := headLess_ge sto_cl c hr j q (List.getElem?_eq_getElem hj)
    rw [getElem!_pos L j hj, this] at h
    cases h
theorem belowC_not {c : Cl} {L : List Cl} {j : Nat} (hj : j < L.length) (h : ltC L[j]! c = false) : belowC c L (j + 1) = belowC c L j := by
  unfold belowC
  rcases Nat.lt_or_ge j (headLess ltC c L) with q | q
  · obtain ⟨y, hy, hl⟩ := headLess_lt c L j q
    rw [List.getElem?_eq_getElem hj] at hy
    rw [getElem!_pos L j hj, Option.some.inj hy, hl] at h
    cases h
  · omega
theorem belowC_end (c : Cl) (L : List Cl) : belowC c L L.length = headLess ltC c L := by
  unfold belowC
  have := headLess_le (lt := ltC) c L
  omega
theorem belowC_le (c : Cl) (L : List Cl) (j : Nat) : belowC c L j ≤ j := by unfold belowC; omega
theorem hasC_step {c : Cl} {L : List Cl} {j : Nat} (hj : j < L.length) : hasC c L (j + 1) = (hasC c L j || decide (L[j]! = c)) := by
  unfold hasC
  rw [List.take_succ_eq_append_getElem hj, List.any_append, getElem!_pos L j hj]
  simp
theorem hasC_end (c : Cl) (L : List Cl) : hasC c L L.length = decide (c ∈ L) := by
  unfold hasC
  rw [List.take_length, Bool.eq_iff_iff]
  simp
theorem put_there {c : Cl} {L : List Cl} (hr : Rise ltC L) (h : c ∈ L) : put ltC c L = L := by
  rw [put_eq, if_pos (headLess_mem sto_cl c hr h)]
theorem cell_parts (b : Bx4) : ∃ (d : Nat) (x y : Int), cellE b = ((d : Int), x, y) ∧ d ≤ 8 ∧ 0 ≤ x ∧ x ≤ 255 ∧ 0 ≤ y ∧ y ≤ 255 ∧ chainB b = chain d x y := by
  by_cases h : errB b = 0
  · obtain ⟨hR, hW⟩ := errB_zero.1 h
    obtain ⟨w1, w2, w3, w4, w5, w6, w7, w8⟩ := okW_iff.1 hW
    have h1 := depth_le b
    have h2 := col_bounds h1 (show -2097152 ≤ halfI (b.1 + b.2.2.1) by unfold halfI; omega)
    have h3 := col_bounds h1 (show -2097152 ≤ halfI (b.2.1 + b.2.2.2) by unfold halfI; omega)
    refine ⟨depthB b, _, _, by unfold cellE; rw [if_pos h]; rfl, h1, h2.1, h2.2.2, h3.1, h3.2.2, ?_⟩
    unfold chainB cellE
    rw [if_pos h]
    rfl
  · refine ⟨0, 0, 0, by unfold cellE; rw [if_neg h]; rfl, by omega, by omega, by omega, by omega, by omega, ?_⟩
    unfold chainB cellE
    rw [if_neg h]
    rfl
theorem eqC_run (x y : Cl) (w : World) : Sem.run Tryd.prog (binOp .eql 31 (clV x) (clV y)) w = .ok (.bool (decide (x = y))) w := by
  obtain ⟨x1, x2, x3⟩ := x
  obtain ⟨y1, y2, y3⟩ := y
  have u3 := Tryd.underlying3
  have a3 := Tryd.isAgg3
  have z3 := Tryd.sizeOf3
  have hS : Tryd.prog.underlying 31 = some (.struct (Tryd.prog.fieldsOf 31)) := by kernel_rfl
  have hp : Tryd.prog.stoodInHeld 31 = false := by kernel_rfl
  unfold clV
  rw [run_eql_struct, show (10000 : Nat) = 9999 + 1 from rfl, run_equalIn_agg w 9999 31 _ _ hS hp]
  simp only [Program.fieldsOf, Tryd.underlying31]
  go_simp
  by_cases h1 : x1 = y1 <;> by_cases h2 : x2 = y2 <;> by_cases h3 : x3 = y3 <;> simp [h1, h2, h3]
theorem gdC_run (op : BinOp) (a b : Operand) (xs ys : Array Value) (w : World) : Sem.run Tryd.prog (eqGuard op 31 a b (.agg xs) (.agg ys)) w = .ok () w :=
  run_eqGuard_agg w op 31 a b xs ys (by kernel_rfl)

theorem set3 {w : World} {b : Nat} {t : TypeId} {a1 a2 a3 : Value} (h : w.heap[b]? = some (.cells #[a1, a2, a3] t (0, 0))) (v1 v2 v3 : Value) :
    (((w.setCell ⟨b, 0, none⟩ v1).setCell ⟨b, 1, none⟩ v2).setCell ⟨b, 2, none⟩ v3).heap[b]? = some (.cells #[v1, v2, v3] t (0, 0)) := by
  have e1 := heap_setCell_same w b 0 _ t v1 h
  have e2 := heap_setCell_same _ b 1 _ t v2 e1
  have e3 := heap_setCell_same _ b 2 _ t v3 e2
  simpa using e3
theorem set3_other {w : World} {b g : Nat} (hg : g ≠ b) (v1 v2 v3 : Value) :
    (((w.setCell ⟨b, 0, none⟩ v1).setCell ⟨b, 1, none⟩ v2).setCell ⟨b, 2, none⟩ v3).heap[g]? = w.heap[g]? := by
  rw [heap_setCell_other _ _ _ _ hg, heap_setCell_other _ _ _ _ hg, heap_setCell_other _ _ _ _ hg]
theorem chain_succ (d : Nat) (x y : Int) : chain (d + 1) x y = (((d + 1 : Nat) : Int), x, y) :: chain d (x / 2) (y / 2) := rfl
end Go.Proofs.YtlnncnbahmgpfaaDoor
