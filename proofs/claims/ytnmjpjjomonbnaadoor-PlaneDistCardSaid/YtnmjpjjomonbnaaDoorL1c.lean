/-
  The walks of the laws PlaneDist, PlaneGap, PlaneCentre: each answers true, whatever it is given.
-/
import Derived.Test.YtnmjpjjomonbnaaDoorPlaneD
import Derived.Test.YtnmjpjjomonbnaaDoorL1a
import Derived.Test.YtnmjpjjomonbnaaDoorL1b
namespace Go.Proofs.YtnmjpjjomonbnaaDoor
set_option linter.unusedSimpArgs false
set_option linter.unusedVariables false
open Go.RowKit

set_option maxRecDepth 100000 in
set_option maxHeartbeats 2000000 in
theorem planeDist_far {A : Nat → Addr} (x y u v r : Int) (w : World) (hE : Errs w A) (h : (reachB x y && reachB u v) = false) :
    Calls Tryd.prog 7 #[.agg #[.int .i64 x, .int .i64 y], .agg #[.int .i64 u, .int .i64 v], .int .i64 r] w fun e w' => e = .returned (.bool true) ∧ Below w.heap.size w w' := by
  have HG : Hid (w.cell? ⟨0, 0, none⟩ = some (.iface 82 (.pointer (some (A 0))))) := hE.cell 0 (by omega)
  have hlt : 0 < w.heap.size := cell_lt HG.out
  have HE := Lib.hid hE
  have h2 : Hid (((reachB x y && reachB u v) && btw r 0 4194304) = false) := by rw [Hid, h]; rfl
  have h1 := Lib.hid h
  have hx : rreachB x y = reachB x y := (reach_same x y).symm
  have hu : rreachB u v = reachB u v := (reach_same u v).symm
  have HX := Lib.hid hx
  have HU := Lib.hid hu
  clear hE hx hu h
  cases k1 : reachB x y
  · go_enter Tryd.func7, Tryd.ntmps7
    go_wp2_with (first
      | (go_at_call 14; refine (alive_any _).mono ?_; rintro e w1 ⟨rfl, hb1⟩; obtain ⟨hc1, hf1⟩ := bcell hb1; have hz0 : w.heap.size < w1.heap.size := Bl hb1 (by first | assumption | (simp; done) | (simp; omega)); have hz1 : w.heap.size + 1 < w1.heap.size := Bl hb1 (by first | assumption | (simp; done) | (simp; omega)))
      | (go_at_call 27; refine (dist_no _ _ _ _ _ (A 0) (Bc ((by repeat (first | exact Below.refl _ _ | apply Ba | apply Bd | apply Bn | (refine Bt ?_ (by assumption)) | (refine Bs ?_ (by first | (simp; done) | (simp; omega)) _))) : Below w.heap.size w _) hlt HG.out) h1.out).mono ?_; rintro e w1 ⟨rfl, hb1⟩; obtain ⟨hc1, hf1⟩ := bcell hb1; have hz0 : w.heap.size < w1.heap.size := Bl hb1 (by first | assumption | (simp; done) | (simp; omega)); have hz1 : w.heap.size + 1 < w1.heap.size := Bl hb1 (by first | assumption | (simp; done) | (simp; omega)))
      | (go_at_call 28; refine (within_no _ _ _ _ _ _ (A 0) (Bc ((by repeat (first | exact Below.refl _ _ | apply Ba | apply Bd | apply Bn | (refine Bt ?_ (by assumption)) | (refine Bs ?_ (by first | (simp; done) | (simp; omega)) _))) : Below w.heap.size w _) hlt HG.out) h2.out).mono ?_; rintro e w1 ⟨rfl, hb1⟩; obtain ⟨hc1, hf1⟩ := bcell hb1; have hz0 : w.heap.size < w1.heap.size := Bl hb1 (by first | assumption | (simp; done) | (simp; omega)); have hz1 : w.heap.size + 1 < w1.heap.size := Bl hb1 (by first | assumption | (simp; done) | (simp; omega)))
      | (go_at_call 19; refine (bool_is (HX.out.trans k1) (rreach_any _ _ _)).mono ?_; rintro e w1 ⟨rfl, hb1⟩; obtain ⟨hc1, hf1⟩ := bcell hb1; have hz0 : w.heap.size < w1.heap.size := Bl hb1 (by first | assumption | (simp; done) | (simp; omega)); have hz1 : w.heap.size + 1 < w1.heap.size := Bl hb1 (by first | assumption | (simp; done) | (simp; omega)))
      | (go_at_call 17; refine (num_range (HE.out.below ((by repeat (first | exact Below.refl _ _ | apply Ba | apply Bd | apply Bn | (refine Bt ?_ (by assumption)) | (refine Bs ?_ (by first | (simp; done) | (simp; omega)) _))) : Below w.heap.size w _))).mono ?_; rintro e w1 ⟨rfl, hb1⟩; obtain ⟨hc1, hf1⟩ := bcell hb1; have hz0 : w.heap.size < w1.heap.size := Bl hb1 (by first | assumption | (simp; done) | (simp; omega)); have hz1 : w.heap.size + 1 < w1.heap.size := Bl hb1 (by first | assumption | (simp; done) | (simp; omega))))
    go_ret
    exact ⟨rfl, (by repeat (first | exact Below.refl _ _ | apply Ba | apply Bd | apply Bn | (refine Bt ?_ (by assumption)) | (refine Bs ?_ (by first | (simp; done) | (simp; omega)) _)))⟩
  · have k2 : Hid (rreachB u v = false) := by
      have := h1.out
      rw [k1] at this
      rw [Hid, HU.out]
      simpa using this
    go_enter Tryd.func7, Tryd.ntmps7
    go_wp2_with (first
      | (go_at_call 14; refine (alive_any _).mono ?_; rintro e w1 ⟨rfl, hb1⟩; obtain ⟨hc1, hf1⟩ := bcell hb1; have hz0 : w.heap.size < w1.heap.size := Bl hb1 (by first | assumption | (simp; done) | (simp; omega)); have hz1 : w.heap.size + 1 < w1.heap.size := Bl hb1 (by first | assumption | (simp; done) | (simp; omega)))
      | (go_at_call 27; refine (dist_no _ _ _ _ _ (A 0) (Bc ((by repeat (first | exact Below.refl _ _ | apply Ba | apply Bd | apply Bn | (refine Bt ?_ (by assumption)) | (refine Bs ?_ (by first | (simp; done) | (simp; omega)) _))) : Below w.heap.size w _) hlt HG.out) h1.out).mono ?_; rintro e w1 ⟨rfl, hb1⟩; obtain ⟨hc1, hf1⟩ := bcell hb1; have hz0 : w.heap.size < w1.heap.size := Bl hb1 (by first | assumption | (simp; done) | (simp; omega)); have hz1 : w.heap.size + 1 < w1.heap.size := Bl hb1 (by first | assumption | (simp; done) | (simp; omega)))
      | (go_at_call 28; refine (within_no _ _ _ _ _ _ (A 0) (Bc ((by repeat (first | exact Below.refl _ _ | apply Ba | apply Bd | apply Bn | (refine Bt ?_ (by assumption)) | (refine Bs ?_ (by first | (simp; done) | (simp; omega)) _))) : Below w.heap.size w _) hlt HG.out) h2.out).mono ?_; rintro e w1 ⟨rfl, hb1⟩; obtain ⟨hc1, hf1⟩ := bcell hb1; have hz0 : w.heap.size < w1.heap.size := Bl hb1 (by first | assumption | (simp; done) | (simp; omega)); have hz1 : w.heap.size + 1 < w1.heap.size := Bl hb1 (by first | assumption | (simp; done) | (simp; omega)))
      | (go_at_call_of 19 (Value.agg #[.int .i64 x, .int .i64 y]); refine (bool_is (HX.out.trans k1) (rreach_any _ _ _)).mono ?_; rintro e w1 ⟨rfl, hb1⟩; obtain ⟨hc1, hf1⟩ := bcell hb1; have hz0 : w.heap.size < w1.heap.size := Bl hb1 (by first | assumption | (simp; done) | (simp; omega)); have hz1 : w.heap.size + 1 < w1.heap.size := Bl hb1 (by first | assumption | (simp; done) | (simp; omega)))
      | (go_at_call_of 19 (Value.agg #[.int .i64 u, .int .i64 v]); refine (bool_is k2.out (rreach_any _ _ _)).mono ?_; rintro e w1 ⟨rfl, hb1⟩; obtain ⟨hc1, hf1⟩ := bcell hb1; have hz0 : w.heap.size < w1.heap.size := Bl hb1 (by first | assumption | (simp; done) | (simp; omega)); have hz1 : w.heap.size + 1 < w1.heap.size := Bl hb1 (by first | assumption | (simp; done) | (simp; omega)))
      | (go_at_call 17; refine (num_range (HE.out.below ((by repeat (first | exact Below.refl _ _ | apply Ba | apply Bd | apply Bn | (refine Bt ?_ (by assumption)) | (refine Bs ?_ (by first | (simp; done) | (simp; omega)) _))) : Below w.heap.size w _))).mono ?_; rintro e w1 ⟨rfl, hb1⟩; obtain ⟨hc1, hf1⟩ := bcell hb1; have hz0 : w.heap.size < w1.heap.size := Bl hb1 (by first | assumption | (simp; done) | (simp; omega)); have hz1 : w.heap.size + 1 < w1.heap.size := Bl hb1 (by first | assumption | (simp; done) | (simp; omega))))
    go_ret
    exact ⟨rfl, (by repeat (first | exact Below.refl _ _ | apply Ba | apply Bd | apply Bn | (refine Bt ?_ (by assumption)) | (refine Bs ?_ (by first | (simp; done) | (simp; omega)) _)))⟩

set_option maxRecDepth 100000 in
set_option maxHeartbeats 2000000 in
theorem planeDist_out {A : Nat → Addr} (x y u v r : Int) (w : World) (hE : Errs w A) (k1 : reachB x y = true) (k2 : reachB u v = true) (k3 : btw r 0 4194304 = false) :
    Calls Tryd.prog 7 #[.agg #[.int .i64 x, .int .i64 y], .agg #[.int .i64 u, .int .i64 v], .int .i64 r] w fun e w' => e = .returned (.bool true) ∧ Below w.heap.size w w' := by
  have HG : Hid (w.cell? ⟨0, 0, none⟩ = some (.iface 82 (.pointer (some (A 0))))) := hE.cell 0 (by omega)
  have hlt : 0 < w.heap.size := cell_lt HG.out
  have HE := Lib.hid hE
  have h2 : Hid (((reachB x y && reachB u v) && btw r 0 4194304) = false) := by rw [Hid, k3]; simp
  have HX : Hid (rreachB x y = true) := (reach_same x y).symm.trans k1
  have HU : Hid (rreachB u v = true) := (reach_same u v).symm.trans k2
  have K1 := Lib.hid k1
  have K2 := Lib.hid k2
  have hr : r < 0 ∨ (¬ r < 0 ∧ 4194304 < r) := by
    simp [btw] at k3
    omega
  clear hE k1 k2 k3
  rcases hr with hr | ⟨hr, hr2⟩
  all_goals
    go_enter Tryd.func7, Tryd.ntmps7
    go_wp2_with (first
      | (go_at_call 14; refine (alive_any _).mono ?_; rintro e w1 ⟨rfl, hb1⟩; obtain ⟨hc1, hf1⟩ := bcell hb1; have hz0 : w.heap.size < w1.heap.size := Bl hb1 (by first | assumption | (simp; done) | (simp; omega)); have hz1 : w.heap.size + 1 < w1.heap.size := Bl hb1 (by first | assumption | (simp; done) | (simp; omega)))
      | (go_at_call 27; refine (dist_yes _ _ _ _ _ K1.out K2.out).mono ?_; rintro e w1 ⟨rfl, hb1⟩; obtain ⟨hc1, hf1⟩ := bcell hb1; have hz0 : w.heap.size < w1.heap.size := Bl hb1 (by first | assumption | (simp; done) | (simp; omega)); have hz1 : w.heap.size + 1 < w1.heap.size := Bl hb1 (by first | assumption | (simp; done) | (simp; omega)))
      | (go_at_call 28; refine (within_no _ _ _ _ _ _ (A 0) (Bc ((by repeat (first | exact Below.refl _ _ | apply Ba | apply Bd | apply Bn | (refine Bt ?_ (by assumption)) | (refine Bs ?_ (by first | (simp; done) | (simp; omega)) _))) : Below w.heap.size w _) hlt HG.out) h2.out).mono ?_; rintro e w1 ⟨rfl, hb1⟩; obtain ⟨hc1, hf1⟩ := bcell hb1; have hz0 : w.heap.size < w1.heap.size := Bl hb1 (by first | assumption | (simp; done) | (simp; omega)); have hz1 : w.heap.size + 1 < w1.heap.size := Bl hb1 (by first | assumption | (simp; done) | (simp; omega)))
      | (go_at_call_of 19 (Value.agg #[.int .i64 x, .int .i64 y]); refine (bool_is HX.out (rreach_any _ _ _)).mono ?_; rintro e w1 ⟨rfl, hb1⟩; obtain ⟨hc1, hf1⟩ := bcell hb1; have hz0 : w.heap.size < w1.heap.size := Bl hb1 (by first | assumption | (simp; done) | (simp; omega)); have hz1 : w.heap.size + 1 < w1.heap.size := Bl hb1 (by first | assumption | (simp; done) | (simp; omega)))
      | (go_at_call_of 19 (Value.agg #[.int .i64 u, .int .i64 v]); refine (bool_is HU.out (rreach_any _ _ _)).mono ?_; rintro e w1 ⟨rfl, hb1⟩; obtain ⟨hc1, hf1⟩ := bcell hb1; have hz0 : w.heap.size < w1.heap.size := Bl hb1 (by first | assumption | (simp; done) | (simp; omega)); have hz1 : w.heap.size + 1 < w1.heap.size := Bl hb1 (by first | assumption | (simp; done) | (simp; omega)))
      | (go_at_call 29; refine (square_any _ _ _ _ _ K1.out K2.out).mono ?_; rintro e w1 ⟨rfl, hb1⟩; obtain ⟨hc1, hf1⟩ := bcell hb1; have hz0 : w.heap.size < w1.heap.size := Bl hb1 (by first | assumption | (simp; done) | (simp; omega)); have hz1 : w.heap.size + 1 < w1.heap.size := Bl hb1 (by first | assumption | (simp; done) | (simp; omega)))
      | (go_at_call 17; refine (num_range (HE.out.below ((by repeat (first | exact Below.refl _ _ | apply Ba | apply Bd | apply Bn | (refine Bt ?_ (by assumption)) | (refine Bs ?_ (by first | (simp; done) | (simp; omega)) _))) : Below w.heap.size w _))).mono ?_; rintro e w1 ⟨rfl, hb1⟩; obtain ⟨hc1, hf1⟩ := bcell hb1; have hz0 : w.heap.size < w1.heap.size := Bl hb1 (by first | assumption | (simp; done) | (simp; omega)); have hz1 : w.heap.size + 1 < w1.heap.size := Bl hb1 (by first | assumption | (simp; done) | (simp; omega))))
    go_ret
    exact ⟨rfl, (by repeat (first | exact Below.refl _ _ | apply Ba | apply Bd | apply Bn | (refine Bt ?_ (by assumption)) | (refine Bs ?_ (by first | (simp; done) | (simp; omega)) _)))⟩

set_option maxRecDepth 100000 in
set_option maxHeartbeats 2000000 in
theorem planeDist_in (x y u v r : Int) (w : World) (k1 : reachB x y = true) (k2 : reachB u v = true) (k3 : btw r 0 4194304 = true) :
    Calls Tryd.prog 7 #[.agg #[.int .i64 x, .int .i64 y], .agg #[.int .i64 u, .int .i64 v], .int .i64 r] w fun e w' => e = .returned (.bool true) ∧ Below w.heap.size w w' := by
  have HX : Hid (rreachB x y = true) := (reach_same x y).symm.trans k1
  have HU : Hid (rreachB u v = true) := (reach_same u v).symm.trans k2
  have K1 := Lib.hid k1
  have K2 := Lib.hid k2
  have K3 := Lib.hid k3
  have hr : 0 ≤ r ∧ r ≤ 4194304 := by
    simp [btw] at k3
    exact k3
  clear k1 k2 k3
  obtain ⟨r1, r2⟩ := hr
  obtain ⟨c1, c2⟩ := sq_bd (d := r) (by omega) (by omega)
  go_enter Tryd.func7, Tryd.ntmps7
  go_wp2_with (first
      | (go_at_call 14; refine (alive_any _).mono ?_; rintro e w1 ⟨rfl, hb1⟩; obtain ⟨hc1, hf1⟩ := bcell hb1; have hz0 : w.heap.size < w1.heap.size := Bl hb1 (by first | assumption | (simp; done) | (simp; omega)); have hz1 : w.heap.size + 1 < w1.heap.size := Bl hb1 (by first | assumption | (simp; done) | (simp; omega)))
      | (go_at_call 27; refine (dist_yes _ _ _ _ _ K1.out K2.out).mono ?_; rintro e w1 ⟨rfl, hb1⟩; obtain ⟨hc1, hf1⟩ := bcell hb1; have hz0 : w.heap.size < w1.heap.size := Bl hb1 (by first | assumption | (simp; done) | (simp; omega)); have hz1 : w.heap.size + 1 < w1.heap.size := Bl hb1 (by first | assumption | (simp; done) | (simp; omega)))
      | (go_at_call 28; refine (within_yes _ _ _ _ _ _ K1.out K2.out K3.out).mono ?_; rintro e w1 ⟨rfl, hb1⟩; obtain ⟨hc1, hf1⟩ := bcell hb1; have hz0 : w.heap.size < w1.heap.size := Bl hb1 (by first | assumption | (simp; done) | (simp; omega)); have hz1 : w.heap.size + 1 < w1.heap.size := Bl hb1 (by first | assumption | (simp; done) | (simp; omega)))
      | (go_at_call_of 19 (Value.agg #[.int .i64 x, .int .i64 y]); refine (bool_is HX.out (rreach_any _ _ _)).mono ?_; rintro e w1 ⟨rfl, hb1⟩; obtain ⟨hc1, hf1⟩ := bcell hb1; have hz0 : w.heap.size < w1.heap.size := Bl hb1 (by first | assumption | (simp; done) | (simp; omega)); have hz1 : w.heap.size + 1 < w1.heap.size := Bl hb1 (by first | assumption | (simp; done) | (simp; omega)))
      | (go_at_call_of 19 (Value.agg #[.int .i64 u, .int .i64 v]); refine (bool_is HU.out (rreach_any _ _ _)).mono ?_; rintro e w1 ⟨rfl, hb1⟩; obtain ⟨hc1, hf1⟩ := bcell hb1; have hz0 : w.heap.size < w1.heap.size := Bl hb1 (by first | assumption | (simp; done) | (simp; omega)); have hz1 : w.heap.size + 1 < w1.heap.size := Bl hb1 (by first | assumption | (simp; done) | (simp; omega)))
      | (go_at_call 29; refine (square_any _ _ _ _ _ K1.out K2.out).mono ?_; rintro e w1 ⟨rfl, hb1⟩; obtain ⟨hc1, hf1⟩ := bcell hb1; have hz0 : w.heap.size < w1.heap.size := Bl hb1 (by first | assumption | (simp; done) | (simp; omega)); have hz1 : w.heap.size + 1 < w1.heap.size := Bl hb1 (by first | assumption | (simp; done) | (simp; omega))))
  go_ret
  exact ⟨ret_bool (by simp), (by repeat (first | exact Below.refl _ _ | apply Ba | apply Bd | apply Bn | (refine Bt ?_ (by assumption)) | (refine Bs ?_ (by first | (simp; done) | (simp; omega)) _)))⟩

theorem planeDist_walk {A : Nat → Addr} (x y u v r : Int) (w : World) (hE : Errs w A) :
    Calls Tryd.prog 7 #[.agg #[.int .i64 x, .int .i64 y], .agg #[.int .i64 u, .int .i64 v], .int .i64 r] w fun e w' => e = .returned (.bool true) ∧ Below w.heap.size w w' := by
  cases k1 : reachB x y
  · exact planeDist_far x y u v r w hE (by rw [k1]; rfl)
  cases k2 : reachB u v
  · exact planeDist_far x y u v r w hE (by rw [k2]; simp)
  cases k3 : btw r 0 4194304
  · exact planeDist_out x y u v r w hE k1 k2 k3
  · exact planeDist_in x y u v r w k1 k2 k3

end Go.Proofs.YtnmjpjjomonbnaaDoor
