/-
  Meets and Fits; the reference's Kind; what fits.
-/
import Derived.Test.YtaehendpdfpibaaDoorMk6
namespace Go.Proofs.YtaehendpdfpibaaDoor
set_option linter.unusedSimpArgs false
set_option linter.unusedVariables false
open Go.RowKit Go.Sort Go.Lib Go.Shelf
theorem rkind_any (k : Int) (w : World) : Calls Tryd.prog 26 #[.int .i64 k] w fun e w' => e = .returned (.bool (kindB k)) ∧ w = w' := by
  go_enter Tryd.func26, Tryd.ntmps26
  go_wp2
  all_goals (go_ret; exact ⟨ret_bool (by simp [kindB, *] <;> omega), rfl⟩)

theorem meets_any (a b : Nat) (ha : a < 18446744073709551616) (hb : b < 18446744073709551616) (w : World) : Calls Tryd.prog 35 #[.int .u64 a, .int .u64 b] w fun e w' => e = .returned (.bool (a &&& b != 0)) ∧ w = w' := by
  have h := u64_and_nat a b ha hb
  go_enter Tryd.func35, Tryd.ntmps35
  go_wp2
  go_ret
  exact ⟨ret_bool (neN0 _), rfl⟩
theorem fits_any (m a b : Nat) (hm : m < 18446744073709551616) (ha : a < 18446744073709551616) (hb : b < 18446744073709551616) (w : World) : Calls Tryd.prog 30 #[.int .u64 m, .int .u64 a, .int .u64 b] w fun e w' => e = .returned (.bool ((m &&& a == a) && !(m &&& b != 0))) ∧ w = w' := by
  go_enter Tryd.func30, Tryd.ntmps30
  go_wp2_with (first | (go_at_call 34; refine (holds_any _ _ hm ha _).mono ?_; rintro e w1 ⟨rfl, rfl⟩) | (go_at_call 35; refine (meets_any _ _ hm hb _).mono ?_; rintro e w1 ⟨rfl, rfl⟩))
  all_goals (go_ret; exact ⟨ret_bool (by simp_all), rfl⟩)
end Go.Proofs.YtaehendpdfpibaaDoor
