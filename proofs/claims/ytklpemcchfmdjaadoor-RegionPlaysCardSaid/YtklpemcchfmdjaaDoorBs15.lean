/-
  Regions: beside.
-/
import Derived.Test.YtklpemcchfmdjaaDoorRm15
import Derived.Deep.CutBlock
import Derived.Deep.CutRange
import Derived.Deep.DeepCutAuto
namespace Go.Proofs.YtklpemcchfmdjaaDoor
set_option linter.unusedSimpArgs false
set_option linter.unusedVariables false
open Go.RowKit Go.Sort Go.Lib Go.Shelf

set_option maxHeartbeats 4000000 in
set_option maxRecDepth 100000 in
theorem beside_call {pa W n t : Nat} {L : List Int} {M : Nat → Prop} {w : World} {v : Value} (h : RgV w M pa v W L) (hLn : L.length = n) (hW : 0 < W) (hW2 : W ≤ 1000) (hn : n ≤ 1024) (ht : t < n) : Calls Tryd.prog 49 #[psR pa, .int .i64 t] w fun e w' => ∃ v, e = .returned v ∧ OwnI w' w.heap.size v ((nextT W n t).map fun k : Nat => (k : Int)) ∧ RowKit.Below w.heap.size w w' := by
  have e1 : ((t : Int)).tmod (W : Int) = ((t % W : Nat) : Int) := by rw [Int.tmod_eq_emod_of_nonneg (by omega), ← Int.natCast_emod]
  have hm : t % W < W := Nat.mod_lt _ hW
  have hmt : t % W ≤ t := Nat.mod_le _ _
  unfold nextT
  obtain ⟨blk, cap, rfl, k1, k2, k3, k4, k5⟩ := h.open (by omega) (by omega)
  have hl := h.lt
  have HV := Lib.hid h
  obtain ⟨c0, c1⟩ := h.cells
  rw [hLn] at c1 k1
  clear h k5 hLn
  generalize t % W = m at *
  have hW0 : ¬ (W : Int) = 0 := by omega
  have HO : Hid (OwnI w w.heap.size (.slice none 0 0) []) := Lib.hid (own_nil _ _)
  have HB : Hid (RowKit.Below w.heap.size w w) := Lib.hid (Below.refl _ _)
  have HC : Hid (∀ w', RowKit.Below w.heap.size w w' → w'.cell? ⟨pa, 0, none⟩ = some (.int .i64 W) ∧ w'.cell? ⟨pa, 1, none⟩ = some (.slice (some ⟨blk, 0, none⟩) n cap) ∧ pa < w'.heap.size) := Lib.hid (fun w' hb => ⟨Bc hb (cell_lt c0) c0, Bc hb (cell_lt c1) c1, Nat.lt_of_lt_of_le hl hb.size⟩)
  unfold psR
  by_cases h1 : 0 < m <;> by_cases h2 : m + 1 < W <;> by_cases h3 : W ≤ t <;> by_cases h4 : t + W < n
  all_goals
    first | (have q1 : (m : Int) > (0 : Int) := by omega) | (have q1 : ¬ (m : Int) > (0 : Int) := by omega)
    first | (have q2 : (m : Int) < (W : Int) - 1 := by omega) | (have q2 : ¬ (m : Int) < (W : Int) - 1 := by omega)
    first | (have q3 : (t : Int) - (W : Int) ≥ 0 := by omega) | (have q3 : ¬ (t : Int) - (W : Int) ≥ 0 := by omega)
    first | (have q4 : (t : Int) + (W : Int) < (n : Int) := by omega) | (have q4 : ¬ (t : Int) + (W : Int) < (n : Int) := by omega)
    simp only [h1, h2, h3, h4, if_true, if_false, List.nil_append, List.append_nil, List.map_append, List.map_cons, List.map_nil, List.cons_append]
    try rw [show ((t - 1 : Nat) : Int) = (t : Int) - 1 by omega]
    try rw [show ((t + 1 : Nat) : Int) = (t : Int) + 1 by omega]
    try rw [show ((t - W : Nat) : Int) = (t : Int) - (W : Int) by omega]
    try rw [show ((t + W : Nat) : Int) = (t : Int) + (W : Int) by omega]
    go_enter Tryd.func49, Tryd.ntmps49
    go_upto_region 2 with fail
    generalize Value.slice none 0 0 = v1 at *
    go_wp2_with (at_builtin; refine wpl_app2 (lb := [_]) apI rfl _ _ rfl w.heap.size (by rfl) (by rfl) (row_below HO.out (Ba (Below.refl _ _) _)) rfl (sl_lit (enc := encI) [_] rfl rfl (by unfold maxLen; simp)) (by simp) (Nat.le_trans HB.out.size (Ba (Below.refl _ _) _).size) ?_; intro v7 w7 hown7 hgrow7 hat7 hnil7; have HB := Lib.hid (grownB (Ba HB.out _) (row_below HO.out (Ba (Below.refl _ _) _)) hgrow7); have HO := Lib.hid hown7; have hcc := HC.out _ HB.out; have c0 := hcc.1; have c1 := hcc.2.1; have hl := hcc.2.2; clear hcc hown7 hgrow7 hat7 hnil7)
    go_ret
    exact ⟨_, rfl, (by have := HO.out; (try simp only [List.nil_append, List.cons_append] at this); exact this), HB.out⟩
end Go.Proofs.YtklpemcchfmdjaaDoor
