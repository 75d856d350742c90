/-
  The reference of tiles: Right, Tile, At, Under.
-/
import Derived.Test.YtklpemcchfmdjaaDoorOp14
import Derived.Test.YtklpemcchfmdjaaDoorPw11
import Derived.Test.YtklpemcchfmdjaaDoorFc
namespace Go.Proofs.YtklpemcchfmdjaaDoor
set_option linter.unusedSimpArgs false
set_option linter.unusedVariables false
open Go.RowKit Go.Sort Go.Lib Go.Shelf

theorem grOk_in (W H S X Y : Int) : grOk ⟨W, H, S, X, Y⟩ = (decide (1 ≤ W) && (decide (W ≤ 32) && (decide (1 ≤ H) && (decide (H ≤ 32) && (decide (1 ≤ S) && (decide (S ≤ 65536) && (inB X 1048576 && inB Y 1048576))))))) := by
  rw [Bool.eq_iff_iff, grOk_iff]
  simp only [inB, Bool.and_eq_true, decide_eq_true_eq]
  omega
set_option maxHeartbeats 1000000 in
theorem rgright_any (W H S X Y : Int) (w : World) :
    Calls Tryd.prog 9 #[.agg #[.int .i64 W, .int .i64 H, .int .i64 S, .int .i64 X, .int .i64 Y]] w fun e w' => e = .returned (.bool (grOk ⟨W, H, S, X, Y⟩)) ∧ Below w.heap.size w w' := by
  go_enter Tryd.func9, Tryd.ntmps9
  go_wp2_with (go_at_call 27; refine (in_any _ _ _ (by omega) (by omega)).mono ?_; rintro e w' ⟨rfl, rfl⟩)
  all_goals (go_ret; exact ⟨ret_bool (by rw [grOk_in]; simp [*] <;> (intros; omega)), (by repeat (first | with_reducible exact Below.refl _ _ | with_reducible assumption | with_reducible apply Ba | with_reducible apply Bd | with_reducible apply Bn | with_reducible apply Bg | (with_reducible refine Bs ?_ (by first | (simp; done) | (simp; omega)) _) | (with_reducible refine Bt ?_ (by assumption)) | (with_reducible refine Bt ?_ (Gr.below (by assumption)))))⟩)

def rhasB (a b c d x y : Int) : Bool := decide (a ≤ x) && (decide (x ≤ c) && (decide (b ≤ y) && decide (y ≤ d)))
theorem rhas_is (a b c d x y : Int) : rhasB a b c d x y = meets4 (a, b, c, d) (ptB (x, y)) := by
  show _ = !(decide (c < x) || (decide (x < a) || (decide (d < y) || decide (y < b))))
  rw [Bool.eq_iff_iff]
  simp only [rhasB, Bool.and_eq_true, decide_eq_true_eq, Bool.not_eq_true', Bool.or_eq_false_iff, decide_eq_false_iff_not]
  omega
theorem rmeets_is (a b c d p q r s : Int) : rmeetsB a b c d p q r s = meets4 (a, b, c, d) (p, q, r, s) := rfl
theorem rright_okX (x1 x2 x3 x4 : Int) : rrightB x1 x2 x3 x4 = okX (x1, x2, x3, x4) := by
  rw [Bool.eq_iff_iff, okX_iff]
  simp only [rrightB, inB, Bool.and_eq_true, decide_eq_true_eq]
  omega
end Go.Proofs.YtklpemcchfmdjaaDoor
