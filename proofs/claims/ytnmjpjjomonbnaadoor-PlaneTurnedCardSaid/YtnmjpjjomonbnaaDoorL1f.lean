/-
  The walk of the law PlaneTurned: it answers true, whatever it is given.
-/
import Derived.Test.YtnmjpjjomonbnaaDoorPlaneD
import Derived.Test.YtnmjpjjomonbnaaDoorL1a
namespace Go.Proofs.YtnmjpjjomonbnaaDoor
set_option linter.unusedSimpArgs false
set_option linter.unusedVariables false
open Go.RowKit

theorem turn_any (a b c d : Int) (w : World) :
    Calls Tryd.prog 36 #[.agg #[.int .i64 a, .int .i64 b, .int .i64 c, .int .i64 d]] w fun e w' => e = .returned (.agg #[.int .i64 b, .int .i64 a, .int .i64 d, .int .i64 c]) ∧ Below w.heap.size w w' := by
  go_enter Tryd.func36, Tryd.ntmps36
  go_wp2
  exact bodyPost_ret (v := .agg #[.int .i64 b, .int .i64 a, .int .i64 d, .int .i64 c]) (by simp [results, Tryd.results36, go_sem]) rfl ⟨rfl, (by repeat (first | exact Below.refl _ _ | apply Ba | apply Bd | apply Bn | (refine Bt ?_ (by assumption)) | (refine Bs ?_ (by first | (simp; done) | (simp; omega)) _)))⟩

theorem reach_turned (x y : Int) : reachB y x = reachB x y := by
  unfold reachB bothB
  exact Bool.and_comm _ _
theorem right_turned (a b c d : Int) : rightB b a d c = rightB a b c d := by
  unfold rightB
  rw [reach_turned a b, reach_turned c d]
  cases reachB a b <;> cases reachB c d <;> simp [Bool.and_comm]
theorem meets_other (a b c d p q r s : Int) : meetsB p q r s a b c d = meetsB a b c d p q r s := by
  unfold meetsB
  cases rightB a b c d
  · cases rightB p q r s <;> rfl
  cases rightB p q r s
  · rfl
  rw [Bool.eq_iff_iff]
  simp
  omega
theorem meets_turned (a b c d p q r s : Int) : meetsB b a d c q p s r = meetsB a b c d p q r s := by
  unfold meetsB
  rw [right_turned a b c d, right_turned p q r s]
  cases rightB a b c d
  · rfl
  cases rightB p q r s
  · rfl
  rw [Bool.eq_iff_iff]
  simp
  omega
theorem has_turned (a b c d x y : Int) : hasB b a d c y x = hasB a b c d x y := by
  unfold hasB
  rw [right_turned, Bool.and_comm (btw y b d)]
theorem gap_turned (x y a b c d : Int) : gap y x b a d c = gap x y a b c d := by
  unfold gap dist
  exact Int.add_comm _ _
theorem near_zero {n lo hi : Int} (h : lo ≤ hi) : (n - nearestI n lo hi) * (n - nearestI n lo hi) = 0 ↔ btw n lo hi = true := by
  unfold nearestI
  rw [Int.mul_eq_zero]
  simp [btw]
  split
  · omega
  split <;> omega
theorem gap_zero (x y a b c d : Int) (h : rightB a b c d = true) : (gap x y a b c d == 0) = hasB a b c d x y := by
  obtain ⟨⟨k1, k2⟩, ⟨k3, k4⟩, ⟨k5, k6⟩, ⟨k7, k8⟩, hac, hbd⟩ := right_bd h
  unfold hasB
  rw [h]
  have e1 := near_zero (n := x) hac
  have e2 := near_zero (n := y) hbd
  have sq : ∀ t : Int, 0 ≤ t * t := fun t => by
    rcases Int.le_total 0 t with h | h
    · exact Int.mul_nonneg h h
    · have := Int.mul_nonneg (Int.neg_nonneg_of_nonpos h) (Int.neg_nonneg_of_nonpos h)
      rwa [Int.neg_mul_neg] at this
  have n1 := sq (x - nearestI x a c)
  have n2 := sq (y - nearestI y b d)
  rw [Bool.eq_iff_iff]
  simp only [gap, dist, beq_iff_eq, Bool.true_and, Bool.and_eq_true]
  rw [← e1, ← e2]
  omega

set_option maxRecDepth 100000 in
set_option maxHeartbeats 4000000 in
theorem planeTurned_far (a b c d p q r s x y : Int) (w : World) (ar : Addr) (hg : w.cell? ⟨0, 0, none⟩ = some (.iface 82 (.pointer (some ar)))) (k1 : reachB x y = false) :
    Calls Tryd.prog 12 #[.agg #[.int .i64 a, .int .i64 b, .int .i64 c, .int .i64 d], .agg #[.int .i64 p, .int .i64 q, .int .i64 r, .int .i64 s], .agg #[.int .i64 x, .int .i64 y]] w fun e w' => e = .returned (.bool true) ∧ Below w.heap.size w w' := by
  have HG := Lib.hid hg
  have hlt : 0 < w.heap.size := cell_lt hg
  have k1' : Hid (reachB y x = false) := (reach_turned x y).trans k1
  have K1 := Lib.hid k1
  clear hg k1
  have hm1 : meetsB p q r s a b c d = meetsB a b c d p q r s := meets_other a b c d p q r s
  have hm2 : meetsB b a d c q p s r = meetsB a b c d p q r s := meets_turned a b c d p q r s
  have hh1 : hasB b a d c y x = hasB a b c d x y := has_turned a b c d x y
  go_enter Tryd.func12, Tryd.ntmps12
  go_wp2_with (first
    | (go_at_call 14; refine (alive_any _).mono ?_; rintro e w1 ⟨rfl, hb1⟩; obtain ⟨hc1, hf1⟩ := bcell hb1; have hz0 : w.heap.size < w1.heap.size := Bl hb1 (by first | assumption | (simp; done) | (simp; omega)); have hz1 : w.heap.size + 1 < w1.heap.size := Bl hb1 (by first | assumption | (simp; done) | (simp; omega)); have hz2 : w.heap.size + 1 + 1 < w1.heap.size := Bl hb1 (by first | assumption | (simp; done) | (simp; omega)))
    | (go_at_call 30; refine (gap_far _ _ _ _ _ _ _ ar (Bc ((by repeat (first | exact Below.refl _ _ | apply Ba | apply Bd | apply Bn | (refine Bt ?_ (by assumption)) | (refine Bs ?_ (by first | (simp; done) | (simp; omega)) _))) : Below w.heap.size w _) hlt HG.out) K1.out).mono ?_; rintro e w1 ⟨rfl, hb1⟩; obtain ⟨hc1, hf1⟩ := bcell hb1; have hz0 : w.heap.size < w1.heap.size := Bl hb1 (by first | assumption | (simp; done) | (simp; omega)); have hz1 : w.heap.size + 1 < w1.heap.size := Bl hb1 (by first | assumption | (simp; done) | (simp; omega)); have hz2 : w.heap.size + 1 + 1 < w1.heap.size := Bl hb1 (by first | assumption | (simp; done) | (simp; omega)); have hq := bz1 hb1))
  obtain ⟨w0, hw0⟩ : ∃ w0, w0 = w1 := ⟨_, rfl⟩
  subst hw0
  have hT : Below w.heap.size w w0 := (by repeat (first | exact Below.refl _ _ | apply Ba | apply Bd | apply Bn | (refine Bt ?_ (by assumption)) | (refine Bs ?_ (by first | (simp; done) | (simp; omega)) _)))
  go_region_held3 (fun w' => Below (w0).heap.size (w0) w' ∧ ∀ b_1 o, b_1 < (w0).heap.size → w'.cell? ⟨b_1, o, none⟩ = (w0).cell? ⟨b_1, o, none⟩) (first | exact keep0 _ | exact keepB (by assumption) hb1 | assumption)
    (first
      | (go_at_call 36; refine (turn_any _ _ _ _ _).mono ?_; rintro e w1 ⟨rfl, hb1⟩)
      | (go_at_call 30; refine (gap_far _ _ _ _ _ _ _ ar (Bc ((by repeat (first | exact Below.refl _ _ | apply Ba | apply Bd | apply Bn | (refine Bt ?_ (by assumption)) | (refine Bs ?_ (by first | (simp; done) | (simp; omega)) _))) : Below w.heap.size w _) hlt HG.out) k1'.out).mono ?_; rintro e w1 ⟨rfl, hb1⟩))
  go_wp2_with fail
  have hS : Below w0.heap.size w0 w1 := (by repeat (first | exact Below.refl _ _ | apply Ba | apply Bd | apply Bn | (refine Bt ?_ (by assumption)) | (refine Bs ?_ (by first | (simp; done) | (simp; omega)) _)))
  have hT1 : Below w.heap.size w w1 := (by repeat (first | exact Below.refl _ _ | apply Ba | apply Bd | apply Bn | (refine Bt ?_ (by assumption)) | (refine Bs ?_ (by first | (simp; done) | (simp; omega)) _)))
  have hr0 : w.heap.size < w1.heap.size := Bl hS hz0
  have hr1 : w.heap.size + 1 < w1.heap.size := Bl hS hz1
  have hr2 : w.heap.size + 1 + 1 < w1.heap.size := Bl hS hz2
  have hr3 := Bl hS hq
  obtain ⟨hcS, hfS⟩ := bcell hS
  go_region_held3 (fun w' => Below (w1).heap.size (w1) w' ∧ ∀ b_1 o, b_1 < (w1).heap.size → w'.cell? ⟨b_1, o, none⟩ = (w1).cell? ⟨b_1, o, none⟩) (first | exact keep0 _ | exact keepB (by assumption) hb1 | assumption)
    (first
      | (go_at_call 36; refine (turn_any _ _ _ _ _).mono ?_; rintro e w1 ⟨rfl, hb1⟩)
      | (go_at_call 23; refine (meets_any _ _ _ _ _ _ _ _ _).mono ?_; rintro e w1 ⟨rfl, hb1⟩)
      | (go_at_call 26; refine (has_any _ _ _ _ _ _ _).mono ?_; rintro e w1 ⟨rfl, hb1⟩))
  go_wp2
  go_ret
  exact ⟨rfl, (by repeat (first | exact Below.refl _ _ | apply Ba | apply Bd | apply Bn | (refine Bt ?_ (by assumption)) | (refine Bs ?_ (by first | (simp; done) | (simp; omega)) _)))⟩

set_option maxRecDepth 100000 in
set_option maxHeartbeats 4000000 in
theorem planeTurned_form (a b c d p q r s x y : Int) (w : World) (ar : Addr) (hg : w.cell? ⟨6, 0, none⟩ = some (.iface 82 (.pointer (some ar)))) (k1 : reachB x y = true) (k2 : rightB a b c d = false) :
    Calls Tryd.prog 12 #[.agg #[.int .i64 a, .int .i64 b, .int .i64 c, .int .i64 d], .agg #[.int .i64 p, .int .i64 q, .int .i64 r, .int .i64 s], .agg #[.int .i64 x, .int .i64 y]] w fun e w' => e = .returned (.bool true) ∧ Below w.heap.size w w' := by
  have HG := Lib.hid hg
  have hlt : 6 < w.heap.size := cell_lt hg
  have k1' : Hid (reachB y x = true) := (reach_turned x y).trans k1
  have K1 := Lib.hid k1
  have k2' : Hid (rightB b a d c = false) := (right_turned a b c d).trans k2
  have K2 := Lib.hid k2
  clear hg k1 k2
  have hm1 : meetsB p q r s a b c d = meetsB a b c d p q r s := meets_other a b c d p q r s
  have hm2 : meetsB b a d c q p s r = meetsB a b c d p q r s := meets_turned a b c d p q r s
  have hh1 : hasB b a d c y x = hasB a b c d x y := has_turned a b c d x y
  go_enter Tryd.func12, Tryd.ntmps12
  go_wp2_with (first
    | (go_at_call 14; refine (alive_any _).mono ?_; rintro e w1 ⟨rfl, hb1⟩; obtain ⟨hc1, hf1⟩ := bcell hb1; have hz0 : w.heap.size < w1.heap.size := Bl hb1 (by first | assumption | (simp; done) | (simp; omega)); have hz1 : w.heap.size + 1 < w1.heap.size := Bl hb1 (by first | assumption | (simp; done) | (simp; omega)); have hz2 : w.heap.size + 1 + 1 < w1.heap.size := Bl hb1 (by first | assumption | (simp; done) | (simp; omega)))
    | (go_at_call 30; refine (gap_form _ _ _ _ _ _ _ ar (Bc ((by repeat (first | exact Below.refl _ _ | apply Ba | apply Bd | apply Bn | (refine Bt ?_ (by assumption)) | (refine Bs ?_ (by first | (simp; done) | (simp; omega)) _))) : Below w.heap.size w _) hlt HG.out) K1.out K2.out).mono ?_; rintro e w1 ⟨rfl, hb1⟩; obtain ⟨hc1, hf1⟩ := bcell hb1; have hz0 : w.heap.size < w1.heap.size := Bl hb1 (by first | assumption | (simp; done) | (simp; omega)); have hz1 : w.heap.size + 1 < w1.heap.size := Bl hb1 (by first | assumption | (simp; done) | (simp; omega)); have hz2 : w.heap.size + 1 + 1 < w1.heap.size := Bl hb1 (by first | assumption | (simp; done) | (simp; omega)); have hq := bz1 hb1))
  obtain ⟨w0, hw0⟩ : ∃ w0, w0 = w1 := ⟨_, rfl⟩
  subst hw0
  have hT : Below w.heap.size w w0 := (by repeat (first | exact Below.refl _ _ | apply Ba | apply Bd | apply Bn | (refine Bt ?_ (by assumption)) | (refine Bs ?_ (by first | (simp; done) | (simp; omega)) _)))
  go_region_held3 (fun w' => Below (w0).heap.size (w0) w' ∧ ∀ b_1 o, b_1 < (w0).heap.size → w'.cell? ⟨b_1, o, none⟩ = (w0).cell? ⟨b_1, o, none⟩) (first | exact keep0 _ | exact keepB (by assumption) hb1 | assumption)
    (first
      | (go_at_call 36; refine (turn_any _ _ _ _ _).mono ?_; rintro e w1 ⟨rfl, hb1⟩)
      | (go_at_call 30; refine (gap_form _ _ _ _ _ _ _ ar (Bc ((by repeat (first | exact Below.refl _ _ | apply Ba | apply Bd | apply Bn | (refine Bt ?_ (by assumption)) | (refine Bs ?_ (by first | (simp; done) | (simp; omega)) _))) : Below w.heap.size w _) hlt HG.out) k1'.out k2'.out).mono ?_; rintro e w1 ⟨rfl, hb1⟩))
  go_wp2_with fail
  have hS : Below w0.heap.size w0 w1 := (by repeat (first | exact Below.refl _ _ | apply Ba | apply Bd | apply Bn | (refine Bt ?_ (by assumption)) | (refine Bs ?_ (by first | (simp; done) | (simp; omega)) _)))
  have hT1 : Below w.heap.size w w1 := (by repeat (first | exact Below.refl _ _ | apply Ba | apply Bd | apply Bn | (refine Bt ?_ (by assumption)) | (refine Bs ?_ (by first | (simp; done) | (simp; omega)) _)))
  have hr0 : w.heap.size < w1.heap.size := Bl hS hz0
  have hr1 : w.heap.size + 1 < w1.heap.size := Bl hS hz1
  have hr2 : w.heap.size + 1 + 1 < w1.heap.size := Bl hS hz2
  have hr3 := Bl hS hq
  obtain ⟨hcS, hfS⟩ := bcell hS
  go_region_held3 (fun w' => Below (w1).heap.size (w1) w' ∧ ∀ b_1 o, b_1 < (w1).heap.size → w'.cell? ⟨b_1, o, none⟩ = (w1).cell? ⟨b_1, o, none⟩) (first | exact keep0 _ | exact keepB (by assumption) hb1 | assumption)
    (first
      | (go_at_call 36; refine (turn_any _ _ _ _ _).mono ?_; rintro e w1 ⟨rfl, hb1⟩)
      | (go_at_call 23; refine (meets_any _ _ _ _ _ _ _ _ _).mono ?_; rintro e w1 ⟨rfl, hb1⟩)
      | (go_at_call 26; refine (has_any _ _ _ _ _ _ _).mono ?_; rintro e w1 ⟨rfl, hb1⟩))
  go_wp2
  go_ret
  exact ⟨rfl, (by repeat (first | exact Below.refl _ _ | apply Ba | apply Bd | apply Bn | (refine Bt ?_ (by assumption)) | (refine Bs ?_ (by first | (simp; done) | (simp; omega)) _)))⟩

set_option maxRecDepth 100000 in
set_option maxHeartbeats 4000000 in
theorem planeTurned_ok (a b c d p q r s x y : Int) (w : World) (k1 : reachB x y = true) (k2 : rightB a b c d = true) :
    Calls Tryd.prog 12 #[.agg #[.int .i64 a, .int .i64 b, .int .i64 c, .int .i64 d], .agg #[.int .i64 p, .int .i64 q, .int .i64 r, .int .i64 s], .agg #[.int .i64 x, .int .i64 y]] w fun e w' => e = .returned (.bool true) ∧ Below w.heap.size w w' := by
  have k1' : Hid (reachB y x = true) := (reach_turned x y).trans k1
  have K1 := Lib.hid k1
  have k2' : Hid (rightB b a d c = true) := (right_turned a b c d).trans k2
  have K2 := Lib.hid k2
  have hgt : gap y x b a d c = gap x y a b c d := gap_turned x y a b c d
  clear k1 k2
  have hm1 : meetsB p q r s a b c d = meetsB a b c d p q r s := meets_other a b c d p q r s
  have hm2 : meetsB b a d c q p s r = meetsB a b c d p q r s := meets_turned a b c d p q r s
  have hh1 : hasB b a d c y x = hasB a b c d x y := has_turned a b c d x y
  go_enter Tryd.func12, Tryd.ntmps12
  go_wp2_with (first
    | (go_at_call 14; refine (alive_any _).mono ?_; rintro e w1 ⟨rfl, hb1⟩; obtain ⟨hc1, hf1⟩ := bcell hb1; have hz0 : w.heap.size < w1.heap.size := Bl hb1 (by first | assumption | (simp; done) | (simp; omega)); have hz1 : w.heap.size + 1 < w1.heap.size := Bl hb1 (by first | assumption | (simp; done) | (simp; omega)); have hz2 : w.heap.size + 1 + 1 < w1.heap.size := Bl hb1 (by first | assumption | (simp; done) | (simp; omega)))
    | (go_at_call 30; refine (gap_yes _ _ _ _ _ _ _ K1.out K2.out).mono ?_; rintro e w1 ⟨rfl, hb1⟩; obtain ⟨hc1, hf1⟩ := bcell hb1; have hz0 : w.heap.size < w1.heap.size := Bl hb1 (by first | assumption | (simp; done) | (simp; omega)); have hz1 : w.heap.size + 1 < w1.heap.size := Bl hb1 (by first | assumption | (simp; done) | (simp; omega)); have hz2 : w.heap.size + 1 + 1 < w1.heap.size := Bl hb1 (by first | assumption | (simp; done) | (simp; omega)); have hq := bz1 hb1))
  obtain ⟨w0, hw0⟩ : ∃ w0, w0 = w1 := ⟨_, rfl⟩
  subst hw0
  have hT : Below w.heap.size w w0 := (by repeat (first | exact Below.refl _ _ | apply Ba | apply Bd | apply Bn | (refine Bt ?_ (by assumption)) | (refine Bs ?_ (by first | (simp; done) | (simp; omega)) _)))
  go_region_held3 (fun w' => Below (w0).heap.size (w0) w' ∧ ∀ b_1 o, b_1 < (w0).heap.size → w'.cell? ⟨b_1, o, none⟩ = (w0).cell? ⟨b_1, o, none⟩) (first | exact keep0 _ | exact keepB (by assumption) hb1 | assumption)
    (first
      | (go_at_call 36; refine (turn_any _ _ _ _ _).mono ?_; rintro e w1 ⟨rfl, hb1⟩)
      | (go_at_call 30; refine (gap_yes _ _ _ _ _ _ _ k1'.out k2'.out).mono ?_; rintro e w1 ⟨rfl, hb1⟩))
  go_wp2_with fail
  have hS : Below w0.heap.size w0 w1 := (by repeat (first | exact Below.refl _ _ | apply Ba | apply Bd | apply Bn | (refine Bt ?_ (by assumption)) | (refine Bs ?_ (by first | (simp; done) | (simp; omega)) _)))
  have hT1 : Below w.heap.size w w1 := (by repeat (first | exact Below.refl _ _ | apply Ba | apply Bd | apply Bn | (refine Bt ?_ (by assumption)) | (refine Bs ?_ (by first | (simp; done) | (simp; omega)) _)))
  have hr0 : w.heap.size < w1.heap.size := Bl hS hz0
  have hr1 : w.heap.size + 1 < w1.heap.size := Bl hS hz1
  have hr2 : w.heap.size + 1 + 1 < w1.heap.size := Bl hS hz2
  have hr3 := Bl hS hq
  obtain ⟨hcS, hfS⟩ := bcell hS
  go_region_held3 (fun w' => Below (w1).heap.size (w1) w' ∧ ∀ b_1 o, b_1 < (w1).heap.size → w'.cell? ⟨b_1, o, none⟩ = (w1).cell? ⟨b_1, o, none⟩) (first | exact keep0 _ | exact keepB (by assumption) hb1 | assumption)
    (first
      | (go_at_call 36; refine (turn_any _ _ _ _ _).mono ?_; rintro e w1 ⟨rfl, hb1⟩)
      | (go_at_call 23; refine (meets_any _ _ _ _ _ _ _ _ _).mono ?_; rintro e w1 ⟨rfl, hb1⟩)
      | (go_at_call 26; refine (has_any _ _ _ _ _ _ _).mono ?_; rintro e w1 ⟨rfl, hb1⟩))
  clear hT1
  have hS2 : Below w0.heap.size w0 w1 := (by repeat (first | exact Below.refl _ _ | apply Ba | apply Bd | apply Bn | (refine Bt ?_ (by assumption)) | (refine Bs ?_ (by first | (simp; done) | (simp; omega)) _)))
  have hu0 : w.heap.size < w1.heap.size := Bl hS2 hz0
  have hu1 : w.heap.size + 1 < w1.heap.size := Bl hS2 hz1
  have hu2 : w.heap.size + 1 + 1 < w1.heap.size := Bl hS2 hz2
  obtain ⟨hcU, hfU⟩ := bcell hS2
  go_wp2_with (go_at_call 26; refine (has_any _ _ _ _ _ _ _).mono ?_; rintro e w1 ⟨rfl, hb1⟩)
  go_ret
  exact ⟨ret_bool (by rw [gap_zero _ _ _ _ _ _ K2.out]; simp), (by repeat (first | exact Below.refl _ _ | apply Ba | apply Bd | apply Bn | (refine Bt ?_ (by assumption)) | (refine Bs ?_ (by first | (simp; done) | (simp; omega)) _)))⟩

theorem planeTurned_walk (a b c d p q r s x y : Int) (w : World) (ar af : Addr) (hr : w.cell? ⟨0, 0, none⟩ = some (.iface 82 (.pointer (some ar)))) (hf : w.cell? ⟨6, 0, none⟩ = some (.iface 82 (.pointer (some af)))) :
    Calls Tryd.prog 12 #[.agg #[.int .i64 a, .int .i64 b, .int .i64 c, .int .i64 d], .agg #[.int .i64 p, .int .i64 q, .int .i64 r, .int .i64 s], .agg #[.int .i64 x, .int .i64 y]] w fun e w' => e = .returned (.bool true) ∧ Below w.heap.size w w' := by
  cases k1 : reachB x y
  · exact planeTurned_far a b c d p q r s x y w ar hr k1
  cases k2 : rightB a b c d
  · exact planeTurned_form a b c d p q r s x y w af hf k1 k2
  · exact planeTurned_ok a b c d p q r s x y w k1 k2

end Go.Proofs.YtnmjpjjomonbnaaDoor
