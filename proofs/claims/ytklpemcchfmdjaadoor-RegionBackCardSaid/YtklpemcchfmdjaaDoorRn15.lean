/-
  The reference of region: Next.
-/
import Derived.Test.YtklpemcchfmdjaaDoorOp15
import Derived.Deep.CutBlock
import Derived.Deep.CutRange
import Derived.Deep.DeepCutAuto
namespace Go.Proofs.YtklpemcchfmdjaaDoor
set_option linter.unusedSimpArgs false
set_option linter.unusedVariables false
open Go.RowKit Go.Sort Go.Lib Go.Shelf

set_option maxHeartbeats 4000000 in
set_option maxRecDepth 100000 in
theorem rnext_call (W n t : Nat) (w : World) (hW : 0 < W) (hW2 : W ≤ 1000) (hn : n ≤ 100000) (ht : t < n) : Calls Tryd.prog 37 #[.int .i64 W, .int .i64 n, .int .i64 t] w fun e w' => ∃ v, e = .returned v ∧ OwnI w' w.heap.size v ((nextT W n t).map fun k : Nat => (k : Int)) ∧ RowKit.Below w.heap.size w w' := by
  have e1 : ((t : Int)).tmod (W : Int) = ((t % W : Nat) : Int) := by rw [Int.tmod_eq_emod_of_nonneg (by omega), ← Int.natCast_emod]
  have hm : t % W < W := Nat.mod_lt _ hW
  have hmt : t % W ≤ t := Nat.mod_le _ _
  unfold nextT
  generalize t % W = m at *
  have hW0 : ¬ (W : Int) = 0 := by omega
  have O0 := Lib.hid (World.ownsRow_made (base := w.heap.size) (e := 3) (size := 1) w #[] 0 (Nat.le_refl _) (Nat.zero_le _) (by simp))
  have HO : Hid (OwnI (w.alloc (.cells #[] 3)) w.heap.size (.slice (some ⟨w.heap.size, 0, none⟩) 0 0) []) := O0
  have HB := Lib.hid (Ba (Below.refl _ w) (.cells #[] 3))
  clear O0
  by_cases h1 : 0 < m <;> by_cases h2 : m + 1 < W <;> by_cases h3 : W ≤ t <;> by_cases h4 : t + W < n
  all_goals
    first | (have q1 : (0 : Int) < (m : Int) := by omega) | (have q1 : ¬ (0 : Int) < (m : Int) := by omega)
    first | (have q2 : (m : Int) + 1 < (W : Int) := by omega) | (have q2 : ¬ (m : Int) + 1 < (W : Int) := by omega)
    first | (have q3 : (W : Int) ≤ (t : Int) := by omega) | (have q3 : ¬ (W : Int) ≤ (t : Int) := by omega)
    first | (have q4 : (t : Int) + (W : Int) < (n : Int) := by omega) | (have q4 : ¬ (t : Int) + (W : Int) < (n : Int) := by omega)
    simp only [h1, h2, h3, h4, if_true, if_false, List.nil_append, List.append_nil, List.map_append, List.map_cons, List.map_nil, List.cons_append]
    try rw [show ((t - 1 : Nat) : Int) = (t : Int) - 1 by omega]
    try rw [show ((t + 1 : Nat) : Int) = (t : Int) + 1 by omega]
    try rw [show ((t - W : Nat) : Int) = (t : Int) - (W : Int) by omega]
    try rw [show ((t + W : Nat) : Int) = (t : Int) + (W : Int) by omega]
    go_enter Tryd.func37, Tryd.ntmps37
    go_upto_region 2 with fail
    generalize Value.slice (some ⟨w.heap.size, 0, none⟩) 0 0 = v1 at *
    generalize w.alloc (Obj.cells #[] 3) = w1 at *
    go_wp2_with (at_builtin; refine wpl_app2 (lb := [_]) apI rfl _ _ rfl w.heap.size (by rfl) (by rfl) (row_below HO.out (Ba (Below.refl _ _) _)) rfl (sl_lit (enc := encI) [_] rfl rfl (by unfold maxLen; simp)) (by simp) (Nat.le_trans HB.out.size (Ba (Below.refl _ _) _).size) ?_; intro v7 w7 hown7 hgrow7 hat7 hnil7; have HB := Lib.hid (grownB (Ba HB.out _) (row_below HO.out (Ba (Below.refl _ _) _)) hgrow7); have HO := Lib.hid hown7; clear hown7 hgrow7 hat7 hnil7)
    go_ret
    exact ⟨_, rfl, (by have := HO.out; (try simp only [List.nil_append, List.cons_append] at this); exact this), HB.out⟩
end Go.Proofs.YtklpemcchfmdjaaDoor
