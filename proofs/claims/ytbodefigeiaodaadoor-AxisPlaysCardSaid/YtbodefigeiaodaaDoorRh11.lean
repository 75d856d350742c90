/-
  The reference: Right and less at spans and ends.
-/
import Derived.Test.YtbodefigeiaodaaDoorRg11
import Derived.Test.YtbodefigeiaodaaDoorPu11
namespace Go.Proofs.YtbodefigeiaodaaDoor
set_option linter.unusedSimpArgs false
set_option linter.unusedVariables false
open Go.RowKit Go.Sort Go.Lib Go.Shelf

def rspanB (a b : Int) : Bool := decide (a ≤ b) && (inB a 4194304 && inB b 4194304)
theorem rspanB_eq (a b : Int) : rspanB a b = spanB a b := by
  unfold rspanB spanB
  simp only [inB, reachB, bothB, btw]
  rw [Bool.eq_iff_iff]
  simp only [Bool.and_eq_true, decide_eq_true_eq]
  omega
theorem rightSp_any (h1 h2 a b : Int) (w : World) :
    Calls Tryd.prog 11 #[.agg #[.int .i64 h1, .int .i64 h2, .int .i64 a, .int .i64 b]] w fun e w' => e = .returned (.bool (spanB a b)) ∧ RowKit.Below w.heap.size w w' := by
  rw [← rspanB_eq]
  go_enter Tryd.func11, Tryd.ntmps11
  go_wp2_with (go_at_call 39; refine (in_any _ _ _ (by omega) (by omega)).mono ?_; rintro e w' ⟨rfl, rfl⟩)
  all_goals (go_ret; exact ⟨ret_bool (by simp [rspanB, *] <;> omega), (by repeat (first | with_reducible exact Below.refl _ _ | with_reducible assumption | with_reducible apply Ba | with_reducible apply Bd | with_reducible apply Bn | with_reducible apply Bg | (with_reducible refine Bs ?_ (by first | (simp; done) | (simp; omega)) _) | (with_reducible refine Bt ?_ (by assumption)) | (with_reducible refine Bt ?_ (Gr.below (by assumption)))))⟩)
set_option maxHeartbeats 1000000 in
/-- less, at ends. -/
theorem lessR_any (a b : En) (w : World) :
    Calls Tryd.prog 44 #[aggE a, aggE b] w fun e w' => e = .returned (.bool (ltE a b)) ∧ RowKit.Below w.heap.size w w' := by
  obtain ⟨a1, a2, a3, a4⟩ := a
  obtain ⟨b1, b2, b3, b4⟩ := b
  unfold aggE
  by_cases e1 : a1 = b1
  · subst e1
    cases a2 <;> cases b2
    case false.false =>
      cases hh : ltH (a3, a4) (b3, b4)
      all_goals
        go_enter Tryd.func44, Tryd.ntmps44
        go_wp2_with fail
        refine (rless_is hh _).mono ?_
        rintro e w2 ⟨rfl, hg2⟩
        go_wp2
        go_ret
        exact ⟨ret_bool (by simp [ltE, hh]), Bt (by repeat (first | with_reducible exact Below.refl _ _ | with_reducible assumption | with_reducible apply Ba | with_reducible apply Bd | with_reducible apply Bn | with_reducible apply Bg | (with_reducible refine Bs ?_ (by first | (simp; done) | (simp; omega)) _) | (with_reducible refine Bt ?_ (by assumption)) | (with_reducible refine Bt ?_ (Gr.below (by assumption))))) hg2.below⟩
    case true.true =>
      cases hh : ltH (a3, a4) (b3, b4)
      all_goals
        go_enter Tryd.func44, Tryd.ntmps44
        go_wp2_with fail
        refine (rless_is hh _).mono ?_
        rintro e w2 ⟨rfl, hg2⟩
        go_wp2
        go_ret
        exact ⟨ret_bool (by simp [ltE, hh]), Bt (by repeat (first | with_reducible exact Below.refl _ _ | with_reducible assumption | with_reducible apply Ba | with_reducible apply Bd | with_reducible apply Bn | with_reducible apply Bg | (with_reducible refine Bs ?_ (by first | (simp; done) | (simp; omega)) _) | (with_reducible refine Bt ?_ (by assumption)) | (with_reducible refine Bt ?_ (Gr.below (by assumption))))) hg2.below⟩
    case false.true =>
      go_enter Tryd.func44, Tryd.ntmps44
      go_wp2
      go_ret
      exact ⟨ret_bool (by simp [ltE]), (by repeat (first | with_reducible exact Below.refl _ _ | with_reducible assumption | with_reducible apply Ba | with_reducible apply Bd | with_reducible apply Bn | with_reducible apply Bg | (with_reducible refine Bs ?_ (by first | (simp; done) | (simp; omega)) _) | (with_reducible refine Bt ?_ (by assumption)) | (with_reducible refine Bt ?_ (Gr.below (by assumption)))))⟩
    case true.false =>
      go_enter Tryd.func44, Tryd.ntmps44
      go_wp2
      go_ret
      exact ⟨ret_bool (by simp [ltE]), (by repeat (first | with_reducible exact Below.refl _ _ | with_reducible assumption | with_reducible apply Ba | with_reducible apply Bd | with_reducible apply Bn | with_reducible apply Bg | (with_reducible refine Bs ?_ (by first | (simp; done) | (simp; omega)) _) | (with_reducible refine Bt ?_ (by assumption)) | (with_reducible refine Bt ?_ (Gr.below (by assumption)))))⟩
  · go_enter Tryd.func44, Tryd.ntmps44
    have hne : (a1 != b1) = true := by simpa using e1
    go_wp2
    go_ret
    exact ⟨ret_bool (by simp [ltE, e1]), (by repeat (first | with_reducible exact Below.refl _ _ | with_reducible assumption | with_reducible apply Ba | with_reducible apply Bd | with_reducible apply Bn | with_reducible apply Bg | (with_reducible refine Bs ?_ (by first | (simp; done) | (simp; omega)) _) | (with_reducible refine Bt ?_ (by assumption)) | (with_reducible refine Bt ?_ (Gr.below (by assumption)))))⟩
end Go.Proofs.YtbodefigeiaodaaDoor
