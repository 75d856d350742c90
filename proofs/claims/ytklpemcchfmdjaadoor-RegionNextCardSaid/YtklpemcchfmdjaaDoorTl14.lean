/-
  Package tiles: Right, At, Place, Under.
-/
import Derived.Test.YtklpemcchfmdjaaDoorOp14
import Derived.Test.YtklpemcchfmdjaaDoorPw11
import Derived.Test.YtklpemcchfmdjaaDoorFc
namespace Go.Proofs.YtklpemcchfmdjaaDoor
set_option linter.unusedSimpArgs false
set_option linter.unusedVariables false
open Go.RowKit Go.Sort Go.Lib Go.Shelf

theorem tbetween_any (n lo hi : Int) (w : World) :
    Calls Tryd.prog 38 #[.int .i64 n, .int .i64 lo, .int .i64 hi] w fun e w' => e = .returned (.bool (btw n lo hi)) ∧ w = w' := by
  go_enter Tryd.func38, Tryd.ntmps38
  go_wp2
  all_goals (go_ret; exact ⟨ret_bool (by simp [btw, *] <;> omega), rfl⟩)
theorem grOk_btw (W H S X Y : Int) : grOk ⟨W, H, S, X, Y⟩ = (btw W 1 32 && (btw H 1 32 && (btw S 1 65536 && (btw X (-1048576) 1048576 && btw Y (-1048576) 1048576)))) := rfl
set_option maxHeartbeats 1000000 in
theorem tright_any (W H S X Y : Int) (w : World) :
    Calls Tryd.prog 26 #[.agg #[.int .i64 W, .int .i64 H, .int .i64 S, .int .i64 X, .int .i64 Y]] w fun e w' => e = .returned (.bool (grOk ⟨W, H, S, X, Y⟩)) ∧ Below w.heap.size w w' := by
  go_enter Tryd.func26, Tryd.ntmps26
  go_wp2_with (go_at_call 38; refine (tbetween_any _ _ _ _).mono ?_; rintro e w' ⟨rfl, rfl⟩)
  all_goals (go_ret; exact ⟨ret_bool (by rw [grOk_btw]; simp [*]), (by repeat (first | with_reducible exact Below.refl _ _ | with_reducible assumption | with_reducible apply Ba | with_reducible apply Bd | with_reducible apply Bn | with_reducible apply Bg | (with_reducible refine Bs ?_ (by first | (simp; done) | (simp; omega)) _) | (with_reducible refine Bt ?_ (by assumption)) | (with_reducible refine Bt ?_ (Gr.below (by assumption)))))⟩)
theorem right_okX (a b c d : Int) : rightB a b c d = okX (a, b, c, d) := by
  rw [Bool.eq_iff_iff, okX_iff]
  simp only [rightB, reachB, bothB, btw, Bool.and_eq_true, decide_eq_true_eq]
  omega

end Go.Proofs.YtklpemcchfmdjaaDoor
