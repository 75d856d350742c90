/-
  Package tiles: Right, At, Place, Under.
-/
import Derived.Test.YtmeinjkpbijaeaaOp14
import Derived.Test.YtmeinjkpbijaeaaPw11
import Derived.Test.YtmeinjkpbijaeaaFc
namespace Go.Proofs.Ytmeinjkpbijaeaa
set_option linter.unusedSimpArgs false
set_option linter.unusedVariables false
open Go.RowKit Go.Sort Go.Lib Go.Shelf

theorem tbetween_any (n lo hi : Int) (w : World) :
    Calls Try.prog 16 #[.int .i64 n, .int .i64 lo, .int .i64 hi] w fun e w' => e = .returned (.bool (btw n lo hi)) ∧ w = w' := by
  go_enter Try.func16, Try.ntmps16
  go_wp2
  all_goals (go_ret; exact ⟨ret_bool (by simp [btw, *] <;> omega), rfl⟩)
theorem grOk_btw (W H S X Y : Int) : grOk ⟨W, H, S, X, Y⟩ = (btw W 1 32 && (btw H 1 32 && (btw S 1 65536 && (btw X (-1048576) 1048576 && btw Y (-1048576) 1048576)))) := rfl
set_option maxHeartbeats 1000000 in
theorem tright_any (W H S X Y : Int) (w : World) :
    Calls Try.prog 9 #[.agg #[.int .i64 W, .int .i64 H, .int .i64 S, .int .i64 X, .int .i64 Y]] w fun e w' => e = .returned (.bool (grOk ⟨W, H, S, X, Y⟩)) ∧ Below w.heap.size w w' := by
  go_enter Try.func9, Try.ntmps9
  go_wp2_with (go_at_call 16; refine (tbetween_any _ _ _ _).mono ?_; rintro e w' ⟨rfl, rfl⟩)
  all_goals (go_ret; exact ⟨ret_bool (by rw [grOk_btw]; simp [*]), (by repeat (first | with_reducible exact Below.refl _ _ | with_reducible assumption | with_reducible apply Ba | with_reducible apply Bd | with_reducible apply Bn | with_reducible apply Bg | (with_reducible refine Bs ?_ (by first | (simp; done) | (simp; omega)) _) | (with_reducible refine Bt ?_ (by assumption)) | (with_reducible refine Bt ?_ (Gr.below (by assumption)))))⟩)
theorem right_okX (a b c d : Int) : rightB a b c d = okX (a, b, c, d) := by
  rw [Bool.eq_iff_iff, okX_iff]
  simp only [rightB, reachB, bothB, btw, Bool.and_eq_true, decide_eq_true_eq]
  omega

set_option maxHeartbeats 1000000 in
set_option maxRecDepth 100000 in
theorem covered_call (lo hi a s : Int) (n : Nat) (w : World) (hl : -4194304 ≤ lo ∧ lo ≤ 4194304) (hh : -4194304 ≤ hi ∧ hi ≤ 4194304) (ha : -1048576 ≤ a ∧ a ≤ 1048576) (hs : 1 ≤ s ∧ s ≤ 65536) (hn : 1 ≤ n ∧ n ≤ 32) :
    Calls Try.prog 11 #[.int .i64 lo, .int .i64 hi, .int .i64 a, .int .i64 s, .int .i64 n] w fun e w' => e = .returned (.tuple #[.int .i64 (covI lo hi a s n).1, .int .i64 (covI lo hi a s n).2]) ∧ Below w.heap.size w w' := by
  have hN0 := Int.mul_nonneg (show (0 : Int) ≤ n by omega) (show 0 ≤ s by omega)
  have hN1 := Int.mul_le_mul_of_nonneg_right (show (n : Int) ≤ 32 by omega) (show 0 ≤ s by omega)
  have hwN : wrap64 ((n : Int) * s) = (n : Int) * s := IntWalk.wrap64_in _ ⟨by omega, by omega⟩
  have hN2 : (n : Int) * s ≤ 2097152 := by omega
  unfold covI
  generalize hN : (n : Int) * s = N at *
  have b1 : -4194304 ≤ max lo a ∧ max lo a ≤ 4194304 ∧ a ≤ max lo a := by omega
  have b2 : -4194304 ≤ min hi (a + N - 1) ∧ min hi (a + N - 1) ≤ 4194304 := by omega
  generalize hL : max lo a = L at *
  generalize hR : min hi (a + N - 1) = R at *
  have hs0 : ¬ s = 0 := by omega
  by_cases h : L > R
  · rw [if_pos h]
    go_enter Try.func11, Try.ntmps11
    go_wp2
    exact bodyPost_ret (v := .tuple #[.int .i64 0, .int .i64 (-1)]) (by simp [results, Try.results11, go_sem, *]) rfl ⟨rfl, (by repeat (first | with_reducible exact Below.refl _ _ | with_reducible assumption | with_reducible apply Ba | with_reducible apply Bd | with_reducible apply Bn | with_reducible apply Bg | (with_reducible refine Bs ?_ (by first | (simp; done) | (simp; omega)) _) | (with_reducible refine Bt ?_ (by assumption)) | (with_reducible refine Bt ?_ (Gr.below (by assumption)))))⟩
  · rw [if_neg h]
    have h2 : L ≤ R := by omega
    clear h
    have e1 : (L - a).tdiv s = (L - a) / s := Int.tdiv_eq_ediv_of_nonneg (by omega)
    have e2 : (R - a).tdiv s = (R - a) / s := Int.tdiv_eq_ediv_of_nonneg (by omega)
    have c1 : 0 ≤ (L - a) / s := Int.ediv_nonneg (by omega) (by omega)
    have c2 : (L - a) / s ≤ L - a := Int.ediv_le_self _ (by omega)
    have d1 : 0 ≤ (R - a) / s := Int.ediv_nonneg (by omega) (by omega)
    have d2 : (R - a) / s ≤ R - a := Int.ediv_le_self _ (by omega)
    generalize (L - a) / s = A at *
    generalize (R - a) / s = B at *
    clear hN0 hN1
    dsimp only
    go_enter Try.func11, Try.ntmps11
    go_wp2
    go_region
    go_wp2
    exact bodyPost_ret (v := .tuple #[.int .i64 A, .int .i64 B]) (by simp [results, Try.results11, go_sem, *]) rfl ⟨rfl, (by repeat (first | with_reducible exact Below.refl _ _ | with_reducible assumption | with_reducible apply Ba | with_reducible apply Bd | with_reducible apply Bn | with_reducible apply Bg | (with_reducible refine Bs ?_ (by first | (simp; done) | (simp; omega)) _) | (with_reducible refine Bt ?_ (by assumption)) | (with_reducible refine Bt ?_ (Gr.below (by assumption)))))⟩
end Go.Proofs.Ytmeinjkpbijaeaa
