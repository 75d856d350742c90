import Derived.Test.YtlnncnbahmgpfaaGreatDoorZ22
import Derived.Test.YtlnncnbahmgpfaaGreatDoorZ3
import Derived.Test.YtlnncnbahmgpfaaGreatDoorZ4
import Derived.Test.YtlnncnbahmgpfaaGreatDoorZ27
import Derived.Test.YtlnncnbahmgpfaaGreatDoorZ5

/-
  The walks of alive and QuadCells.
-/
namespace Go.Proofs.YtlnncnbahmgpfaaGreatDoor
set_option linter.unusedSimpArgs false
set_option linter.unusedVariables false
open Go.RowKit Go.Sort Go.Lib Go.Shelf

section
variable {eR eN eF : TypeId × Value}
theorem alive_any (w : World) (hE : Er3 w eR eN eF) : Calls Tryz.prog 4 #[] w fun e w' => e = .returned (.bool true) ∧ RowKit.Below w.heap.size w w' := by
  have QO := Lib.hid (qOf_call 0 0 10 10 w hE)
  have h1 : cellE (0, 0, 10, 10) = (8, 128, 128) := by decide
  have h2 : errV eR eF (0, 0, 10, 10) = .nilIface := by
    have : errB (0, 0, 10, 10) = 0 := by decide
    unfold errV
    rw [if_pos this]
  rw [h1, h2] at QO
  have eQ := fun W => eqQ_run (8, 128, 128) (8, 128, 128) W
  have gd := gdQ_run
  unfold clV at eQ
  dsimp only at eQ
  clear h1 h2 hE
  go_enter Tryz.func4, Tryz.ntmps4
  go_wp2_with fail
  refine QO.out.mono ?_
  rintro e w1 ⟨rfl, hb1⟩
  have B1 := hb1
  go_wp2
  go_ret
  exact ⟨by simp, (by repeat (first | with_reducible exact Below.refl _ _ | with_reducible assumption | with_reducible apply Ba | with_reducible apply Bd | with_reducible apply Bn | with_reducible apply Bg | (with_reducible refine Bs ?_ (by first | (simp; done) | (simp; omega)) _) | (with_reducible refine Bt ?_ (by assumption)) | (with_reducible refine Bt ?_ (Gr.below (by assumption)))))⟩
end
end Go.Proofs.YtlnncnbahmgpfaaGreatDoor
