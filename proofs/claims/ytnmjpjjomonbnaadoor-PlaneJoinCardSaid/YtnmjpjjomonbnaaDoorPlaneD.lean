/-
  The calls of package plane and of its reference, third part: distances: Dist2, Within, Gap2, Square, Gap, Centre, Half.
-/
import Derived.Test.YtnmjpjjomonbnaaDoorPlaneV
import Derived.StillTailTactics
namespace Go.Proofs.YtnmjpjjomonbnaaDoor
set_option linter.unusedSimpArgs false
set_option linter.unusedVariables false
open Go.RowKit

theorem sq_bd {d : Int} (h1 : -8388608 ≤ d) (h2 : d ≤ 8388608) : 0 ≤ d * d ∧ d * d ≤ 70368744177664 := by
  refine ⟨?_, ?_⟩
  · rcases Int.le_total 0 d with h | h
    · exact Int.mul_nonneg h h
    · have := Int.mul_nonneg (Int.neg_nonneg_of_nonpos h) (Int.neg_nonneg_of_nonpos h)
      rwa [Int.neg_mul_neg] at this
  · rcases Int.le_total 0 d with h | h
    · have := Int.mul_le_mul h2 h2 h (by omega)
      simpa using this
    · have := Int.mul_le_mul (show -d ≤ 8388608 by omega) (show -d ≤ 8388608 by omega) (show 0 ≤ -d by omega) (by omega)
      rw [Int.neg_mul_neg] at this
      omega

theorem reach_bd {x y : Int} (h : reachB x y = true) : (-4194304 ≤ x ∧ x ≤ 4194304) ∧ (-4194304 ≤ y ∧ y ≤ 4194304) := by
  simp [reachB, bothB, btw] at h
  omega

theorem ret_intnil {a b : Int} (h : a = b) : Ending.returned (.tuple #[.int .i64 a, .nilIface]) = Ending.returned (.tuple #[.int .i64 b, .nilIface]) := by rw [h]

def dist (x y u v : Int) : Int := (x - u) * (x - u) + (y - v) * (y - v)

set_option maxHeartbeats 1000000 in
theorem dist_yes (x y u v : Int) (w : World) (h1 : reachB x y = true) (h2 : reachB u v = true) :
    Calls Tryd.prog 27 #[.agg #[.int .i64 x, .int .i64 y], .agg #[.int .i64 u, .int .i64 v]] w fun e w' => e = .returned (.tuple #[.int .i64 (dist x y u v), .nilIface]) ∧ Below w.heap.size w w' := by
  obtain ⟨⟨a1, a2⟩, a3, a4⟩ := reach_bd h1
  obtain ⟨⟨b1, b2⟩, b3, b4⟩ := reach_bd h2
  obtain ⟨c1, c2⟩ := sq_bd (d := x - u) (by omega) (by omega)
  obtain ⟨c3, c4⟩ := sq_bd (d := y - v) (by omega) (by omega)
  go_enter Tryd.func27, Tryd.ntmps27
  go_wp2_with (first
    | (go_at_call_of 18 (Value.agg #[.int .i64 x, .int .i64 y]); refine (bool_is h1 (reach_any _ _ _)).mono ?_; rintro e w1 ⟨rfl, hb1⟩; obtain ⟨hc1, hf1⟩ := bcell hb1; have hz0 : w.heap.size < w1.heap.size := Bl hb1 (by first | assumption | (simp; done) | (simp; omega)); have hz1 : w.heap.size + 1 < w1.heap.size := Bl hb1 (by first | assumption | (simp; done) | (simp; omega)))
    | (go_at_call_of 18 (Value.agg #[.int .i64 u, .int .i64 v]); refine (bool_is h2 (reach_any _ _ _)).mono ?_; rintro e w1 ⟨rfl, hb1⟩; obtain ⟨hc1, hf1⟩ := bcell hb1; have hz0 : w.heap.size < w1.heap.size := Bl hb1 (by first | assumption | (simp; done) | (simp; omega)); have hz1 : w.heap.size + 1 < w1.heap.size := Bl hb1 (by first | assumption | (simp; done) | (simp; omega))))
  go_quiet (fail)
  go_wp2
  go_ret2
  exact ⟨ret_intnil rfl, (by repeat (first | exact Below.refl _ _ | apply Ba | apply Bd | apply Bn | (refine Bt ?_ (by assumption)) | (refine Bs ?_ (by first | (simp; done) | (simp; omega)) _)))⟩

set_option maxHeartbeats 1000000 in
theorem dist_no (x y u v : Int) (w : World) (a : Addr) (hg : w.cell? ⟨0, 0, none⟩ = some (.iface 82 (.pointer (some a)))) (h : (reachB x y && reachB u v) = false) :
    Calls Tryd.prog 27 #[.agg #[.int .i64 x, .int .i64 y], .agg #[.int .i64 u, .int .i64 v]] w fun e w' => e = .returned (.tuple #[.int .i64 0, .iface 82 (.pointer (some a))]) ∧ Below w.heap.size w w' := by
  have hlt : 0 < w.heap.size := cell_lt hg
  cases h1 : reachB x y
  · clear h
    go_enter Tryd.func27, Tryd.ntmps27
    go_wp2_with (go_at_call 18; refine (bool_is h1 (reach_any _ _ _)).mono ?_; rintro e w1 ⟨rfl, hb1⟩; obtain ⟨hc1, hf1⟩ := bcell hb1; have hz0 : w.heap.size < w1.heap.size := Bl hb1 (by first | assumption | (simp; done) | (simp; omega)); have hz1 : w.heap.size + 1 < w1.heap.size := Bl hb1 (by first | assumption | (simp; done) | (simp; omega)); have hl1 : 0 < w1.heap.size := Nat.lt_trans hlt hz0)
    go_quiet (fail)
    go_wp2
    go_ret2
    exact ⟨rfl, (by repeat (first | exact Below.refl _ _ | apply Ba | apply Bd | apply Bn | (refine Bt ?_ (by assumption)) | (refine Bs ?_ (by first | (simp; done) | (simp; omega)) _)))⟩
  · have h2 : reachB u v = false := by simpa [h1] using h
    clear h
    go_enter Tryd.func27, Tryd.ntmps27
    go_wp2_with (first
      | (go_at_call_of 18 (Value.agg #[.int .i64 x, .int .i64 y]); refine (bool_is h1 (reach_any _ _ _)).mono ?_; rintro e w1 ⟨rfl, hb1⟩; obtain ⟨hc1, hf1⟩ := bcell hb1; have hz0 : w.heap.size < w1.heap.size := Bl hb1 (by first | assumption | (simp; done) | (simp; omega)); have hz1 : w.heap.size + 1 < w1.heap.size := Bl hb1 (by first | assumption | (simp; done) | (simp; omega)); have hl1 : 0 < w1.heap.size := Nat.lt_trans hlt hz0)
      | (go_at_call_of 18 (Value.agg #[.int .i64 u, .int .i64 v]); refine (bool_is h2 (reach_any _ _ _)).mono ?_; rintro e w1 ⟨rfl, hb1⟩; obtain ⟨hc1, hf1⟩ := bcell hb1; have hz0 : w.heap.size < w1.heap.size := Bl hb1 (by first | assumption | (simp; done) | (simp; omega)); have hz1 : w.heap.size + 1 < w1.heap.size := Bl hb1 (by first | assumption | (simp; done) | (simp; omega)); have hl1 : 0 < w1.heap.size := Nat.lt_trans hlt hz0))
    go_quiet (fail)
    go_wp2
    go_ret2
    exact ⟨rfl, (by repeat (first | exact Below.refl _ _ | apply Ba | apply Bd | apply Bn | (refine Bt ?_ (by assumption)) | (refine Bs ?_ (by first | (simp; done) | (simp; omega)) _)))⟩

set_option maxHeartbeats 400000 in
theorem square_any (x y u v : Int) (w : World) (h1 : reachB x y = true) (h2 : reachB u v = true) :
    Calls Tryd.prog 29 #[.agg #[.int .i64 x, .int .i64 y], .agg #[.int .i64 u, .int .i64 v]] w fun e w' => e = .returned (.int .i64 (dist x y u v)) ∧ Below w.heap.size w w' := by
  obtain ⟨⟨a1, a2⟩, a3, a4⟩ := reach_bd h1
  obtain ⟨⟨b1, b2⟩, b3, b4⟩ := reach_bd h2
  obtain ⟨c1, c2⟩ := sq_bd (d := x - u) (by omega) (by omega)
  obtain ⟨c3, c4⟩ := sq_bd (d := y - v) (by omega) (by omega)
  clear h1 h2
  go_enter Tryd.func29, Tryd.ntmps29
  go_wp2
  go_ret
  exact ⟨ret_int rfl, (by repeat (first | exact Below.refl _ _ | apply Ba | apply Bd | apply Bn | (refine Bt ?_ (by assumption)) | (refine Bs ?_ (by first | (simp; done) | (simp; omega)) _)))⟩

theorem ret_boolnil {a b : Bool} (h : a = b) : Ending.returned (.tuple #[.bool a, .nilIface]) = Ending.returned (.tuple #[.bool b, .nilIface]) := by rw [h]

set_option maxHeartbeats 1000000 in
theorem within_yes (x y u v r : Int) (w : World) (h1 : reachB x y = true) (h2 : reachB u v = true) (h3 : btw r 0 4194304 = true) :
    Calls Tryd.prog 28 #[.agg #[.int .i64 x, .int .i64 y], .agg #[.int .i64 u, .int .i64 v], .int .i64 r] w fun e w' => e = .returned (.tuple #[.bool (decide (dist x y u v ≤ r * r)), .nilIface]) ∧ Below w.heap.size w w' := by
  have hr : 0 ≤ r ∧ r ≤ 4194304 := by
    simp [btw] at h3
    exact h3
  obtain ⟨c1, c2⟩ := sq_bd (d := r) (by omega) (by omega)
  obtain ⟨r1, r2⟩ := hr
  go_enter Tryd.func28, Tryd.ntmps28
  go_wp2_with (first
    | (go_at_call 41; refine (between_any _ _ _ _).mono ?_; rintro e w1 ⟨rfl, rfl⟩)
    | (go_at_call 27; refine (dist_yes _ _ _ _ _ h1 h2).mono ?_; rintro e w1 ⟨rfl, hb1⟩; obtain ⟨hc1, hf1⟩ := bcell hb1; have hz0 : w.heap.size < w1.heap.size := Bl hb1 (by first | assumption | (simp; done) | (simp; omega)); have hz1 : w.heap.size + 1 < w1.heap.size := Bl hb1 (by first | assumption | (simp; done) | (simp; omega))))
  go_ret2
  exact ⟨rfl, (by repeat (first | exact Below.refl _ _ | apply Ba | apply Bd | apply Bn | (refine Bt ?_ (by assumption)) | (refine Bs ?_ (by first | (simp; done) | (simp; omega)) _)))⟩

set_option maxHeartbeats 1000000 in
theorem within_no (x y u v r : Int) (w : World) (a : Addr) (hg : w.cell? ⟨0, 0, none⟩ = some (.iface 82 (.pointer (some a)))) (h : ((reachB x y && reachB u v) && btw r 0 4194304) = false) :
    Calls Tryd.prog 28 #[.agg #[.int .i64 x, .int .i64 y], .agg #[.int .i64 u, .int .i64 v], .int .i64 r] w fun e w' => e = .returned (.tuple #[.bool false, .iface 82 (.pointer (some a))]) ∧ Below w.heap.size w w' := by
  have hlt : 0 < w.heap.size := cell_lt hg
  cases h3 : btw r 0 4194304
  · clear h
    go_enter Tryd.func28, Tryd.ntmps28
    go_wp2_with (go_at_call 41; refine (between_any _ _ _ _).mono ?_; rintro e w1 ⟨rfl, rfl⟩)
    go_quiet (fail)
    go_wp2
    go_ret2
    exact ⟨rfl, (by repeat (first | exact Below.refl _ _ | apply Ba | apply Bd | apply Bn | (refine Bt ?_ (by assumption)) | (refine Bs ?_ (by first | (simp; done) | (simp; omega)) _)))⟩
  · have h2 : Hid ((reachB x y && reachB u v) = false) := by simpa [Hid, h3] using h
    clear h
    have HG := Lib.hid hg
    clear hg
    have hl2 : 0 < w.heap.size + 1 + 1 := by omega
    go_enter Tryd.func28, Tryd.ntmps28
    go_wp2_with (first
      | (go_at_call 41; refine (between_any _ _ _ _).mono ?_; rintro e w1 ⟨rfl, rfl⟩)
      | (go_at_call 27; refine (dist_no _ _ _ _ _ a (Bc ((by repeat (first | exact Below.refl _ _ | apply Ba | apply Bd | apply Bn | (refine Bt ?_ (by assumption)) | (refine Bs ?_ (by first | (simp; done) | (simp; omega)) _))) : Below w.heap.size w _) hlt HG.out) h2.out).mono ?_; rintro e w1 ⟨rfl, hb1⟩; obtain ⟨hc1, hf1⟩ := bcell hb1; have hz0 : w.heap.size < w1.heap.size := Bl hb1 (by first | assumption | (simp; done) | (simp; omega)); have hz1 : w.heap.size + 1 < w1.heap.size := Bl hb1 (by first | assumption | (simp; done) | (simp; omega))))
    go_ret2
    exact ⟨rfl, (by repeat (first | exact Below.refl _ _ | apply Ba | apply Bd | apply Bn | (refine Bt ?_ (by assumption)) | (refine Bs ?_ (by first | (simp; done) | (simp; omega)) _)))⟩

/-! ### Gap2 -/
def nearestI (n lo hi : Int) : Int := if n < lo then lo else if hi < n then hi else n
theorem nearest_any (n lo hi : Int) (w : World) (h : lo ≤ hi) : Calls Tryd.prog 42 #[.int .i64 n, .int .i64 lo, .int .i64 hi] w fun e w' => e = .returned (.int .i64 (nearestI n lo hi)) ∧ w = w' := by
  by_cases h1 : n < lo
  · have H : Hid (nearestI n lo hi = lo) := by simp [Hid, nearestI, h1]
    have h2 : ¬ hi < lo := by omega
    go_enter Tryd.func42, Tryd.ntmps42
    go_wp2
    go_ret
    exact ⟨ret_int H.out.symm, rfl⟩
  · by_cases h2 : hi < n
    · have H : Hid (nearestI n lo hi = hi) := by simp [Hid, nearestI, h1, h2]
      go_enter Tryd.func42, Tryd.ntmps42
      go_wp2
      go_ret
      exact ⟨ret_int H.out.symm, rfl⟩
    · have H : Hid (nearestI n lo hi = n) := by simp [Hid, nearestI, h1, h2]
      go_enter Tryd.func42, Tryd.ntmps42
      go_wp2
      go_ret
      exact ⟨ret_int H.out.symm, rfl⟩

def farI (n lo hi : Int) : Int := if n < lo then lo - n else if n > hi then n - hi else 0
theorem far_any (n lo hi : Int) (w : World) (h1 : -4194304 ≤ n ∧ n ≤ 4194304) (h2 : -4194304 ≤ lo ∧ lo ≤ 4194304) (h3 : -4194304 ≤ hi ∧ hi ≤ 4194304) :
    Calls Tryd.prog 43 #[.int .i64 n, .int .i64 lo, .int .i64 hi] w fun e w' => e = .returned (.int .i64 (farI n lo hi)) ∧ w = w' := by
  obtain ⟨a1, a2⟩ := h1
  obtain ⟨a3, a4⟩ := h2
  obtain ⟨a5, a6⟩ := h3
  go_enter Tryd.func43, Tryd.ntmps43
  go_wp2
  all_goals (go_ret; exact ⟨ret_int (by unfold farI; (repeat' split) <;> omega), rfl⟩)

theorem right_bd {a b c d : Int} (h : rightB a b c d = true) : (-4194304 ≤ a ∧ a ≤ 4194304) ∧ (-4194304 ≤ b ∧ b ≤ 4194304) ∧ (-4194304 ≤ c ∧ c ≤ 4194304) ∧ (-4194304 ≤ d ∧ d ≤ 4194304) ∧ a ≤ c ∧ b ≤ d := by
  simp [rightB, reachB, bothB, btw] at h
  omega
theorem nearest_bd {n lo hi : Int} (h1 : -4194304 ≤ lo) (h2 : hi ≤ 4194304) (h : lo ≤ hi) : -4194304 ≤ nearestI n lo hi ∧ nearestI n lo hi ≤ 4194304 := by
  unfold nearestI
  split
  · omega
  split <;> omega

def gap (x y a b c d : Int) : Int := dist x y (nearestI x a c) (nearestI y b d)

set_option maxHeartbeats 2000000 in
theorem gap_yes (x y a b c d : Int) (w : World) (h1 : reachB x y = true) (h2 : rightB a b c d = true) :
    Calls Tryd.prog 30 #[.agg #[.int .i64 x, .int .i64 y], .agg #[.int .i64 a, .int .i64 b, .int .i64 c, .int .i64 d]] w fun e w' => e = .returned (.tuple #[.int .i64 (gap x y a b c d), .nilIface]) ∧ Below w.heap.size w w' := by
  obtain ⟨⟨k1, k2⟩, ⟨k3, k4⟩, ⟨k5, k6⟩, ⟨k7, k8⟩, hac, hbd⟩ := right_bd h2
  obtain ⟨n1, n2⟩ := nearest_bd (n := x) k1 k6 hac
  obtain ⟨n3, n4⟩ := nearest_bd (n := y) k3 k8 hbd
  have h3 : reachB (nearestI x a c) (nearestI y b d) = true := by
    simp [reachB, bothB, btw]
    omega
  have h3' := Lib.hid h3
  clear h3 n1 n2 n3 n4 k1 k2 k3 k4 k5 k6 k7 k8
  go_enter Tryd.func30, Tryd.ntmps30
  go_wp2_with (first
    | (go_at_call 18; refine (bool_is h1 (reach_any _ _ _)).mono ?_; rintro e w1 ⟨rfl, hb1⟩; obtain ⟨hc1, hf1⟩ := bcell hb1; have hz0 : w.heap.size < w1.heap.size := Bl hb1 (by first | assumption | (simp; done) | (simp; omega)); have hz1 : w.heap.size + 1 < w1.heap.size := Bl hb1 (by first | assumption | (simp; done) | (simp; omega)))
    | (go_at_call 20; refine (bool_is h2 (right_any _ _ _ _ _)).mono ?_; rintro e w1 ⟨rfl, hb1⟩; obtain ⟨hc1, hf1⟩ := bcell hb1; have hz0 : w.heap.size < w1.heap.size := Bl hb1 (by first | assumption | (simp; done) | (simp; omega)); have hz1 : w.heap.size + 1 < w1.heap.size := Bl hb1 (by first | assumption | (simp; done) | (simp; omega))))
  have hT : Below w.heap.size w w1 := (by repeat (first | exact Below.refl _ _ | apply Ba | apply Bd | apply Bn | (refine Bt ?_ (by assumption)) | (refine Bs ?_ (by first | (simp; done) | (simp; omega)) _)))
  go_region_held3 (fun w' => Below (w1).heap.size (w1) w' ∧ ∀ b_1 o, b_1 < (w1).heap.size → w'.cell? ⟨b_1, o, none⟩ = (w1).cell? ⟨b_1, o, none⟩) (first | exact keep0 _ | exact keepB (by assumption) hb1 | assumption)
    (first
      | (go_at_call_of 42 (Value.int .i64 a); refine (nearest_any _ _ _ _ hac).mono ?_; rintro e w1 ⟨rfl, rfl⟩)
      | (go_at_call_of 42 (Value.int .i64 b); refine (nearest_any _ _ _ _ hbd).mono ?_; rintro e w1 ⟨rfl, rfl⟩)
      | (go_at_call 27; refine (dist_yes _ _ _ _ _ h1 h3'.out).mono ?_; rintro e w1 ⟨rfl, hb1⟩))
  go_wp2
  go_ret2
  exact ⟨ret_intnil rfl, (by repeat (first | exact Below.refl _ _ | apply Ba | apply Bd | apply Bn | (refine Bt ?_ (by assumption)) | (refine Bs ?_ (by first | (simp; done) | (simp; omega)) _)))⟩

set_option maxHeartbeats 1000000 in
theorem gap_far (x y a b c d : Int) (w : World) (ea : Addr) (hg : w.cell? ⟨0, 0, none⟩ = some (.iface 82 (.pointer (some ea)))) (h1 : reachB x y = false) :
    Calls Tryd.prog 30 #[.agg #[.int .i64 x, .int .i64 y], .agg #[.int .i64 a, .int .i64 b, .int .i64 c, .int .i64 d]] w fun e w' => e = .returned (.tuple #[.int .i64 0, .iface 82 (.pointer (some ea))]) ∧ Below w.heap.size w w' := by
  have hlt : 0 < w.heap.size := cell_lt hg
  go_enter Tryd.func30, Tryd.ntmps30
  go_wp2_with (go_at_call 18; refine (bool_is h1 (reach_any _ _ _)).mono ?_; rintro e w1 ⟨rfl, hb1⟩; obtain ⟨hc1, hf1⟩ := bcell hb1; have hz0 : w.heap.size < w1.heap.size := Bl hb1 (by first | assumption | (simp; done) | (simp; omega)); have hz1 : w.heap.size + 1 < w1.heap.size := Bl hb1 (by first | assumption | (simp; done) | (simp; omega)); have hl1 : 0 < w1.heap.size := Nat.lt_trans hlt hz0)
  go_quiet (fail)
  go_wp2
  go_ret2
  exact ⟨rfl, (by repeat (first | exact Below.refl _ _ | apply Ba | apply Bd | apply Bn | (refine Bt ?_ (by assumption)) | (refine Bs ?_ (by first | (simp; done) | (simp; omega)) _)))⟩

set_option maxHeartbeats 1000000 in
theorem gap_form (x y a b c d : Int) (w : World) (ea : Addr) (hg : w.cell? ⟨6, 0, none⟩ = some (.iface 82 (.pointer (some ea)))) (h1 : reachB x y = true) (h2 : rightB a b c d = false) :
    Calls Tryd.prog 30 #[.agg #[.int .i64 x, .int .i64 y], .agg #[.int .i64 a, .int .i64 b, .int .i64 c, .int .i64 d]] w fun e w' => e = .returned (.tuple #[.int .i64 0, .iface 82 (.pointer (some ea))]) ∧ Below w.heap.size w w' := by
  have hlt : 6 < w.heap.size := cell_lt hg
  go_enter Tryd.func30, Tryd.ntmps30
  go_wp2_with (first
    | (go_at_call 18; refine (bool_is h1 (reach_any _ _ _)).mono ?_; rintro e w1 ⟨rfl, hb1⟩; obtain ⟨hc1, hf1⟩ := bcell hb1; have hz0 : w.heap.size < w1.heap.size := Bl hb1 (by first | assumption | (simp; done) | (simp; omega)); have hz1 : w.heap.size + 1 < w1.heap.size := Bl hb1 (by first | assumption | (simp; done) | (simp; omega)); have hg1 := Bc ((by repeat (first | exact Below.refl _ _ | apply Ba | apply Bd | apply Bn | (refine Bt ?_ (by assumption)) | (refine Bs ?_ (by first | (simp; done) | (simp; omega)) _))) : Below w.heap.size w w1) hlt hg)
    | (go_at_call 20; refine (bool_is h2 (right_any _ _ _ _ _)).mono ?_; rintro e w1 ⟨rfl, hb1⟩; obtain ⟨hc1, hf1⟩ := bcell hb1; have hz0 : w.heap.size < w1.heap.size := Bl hb1 (by first | assumption | (simp; done) | (simp; omega)); have hz1 : w.heap.size + 1 < w1.heap.size := Bl hb1 (by first | assumption | (simp; done) | (simp; omega)); have hg1 := Bc ((by repeat (first | exact Below.refl _ _ | apply Ba | apply Bd | apply Bn | (refine Bt ?_ (by assumption)) | (refine Bs ?_ (by first | (simp; done) | (simp; omega)) _))) : Below w.heap.size w w1) hlt hg))
  go_quiet (fail)
  go_wp2
  go_ret2
  exact ⟨rfl, (by repeat (first | exact Below.refl _ _ | apply Ba | apply Bd | apply Bn | (refine Bt ?_ (by assumption)) | (refine Bs ?_ (by first | (simp; done) | (simp; omega)) _)))⟩

theorem far_bd {n lo hi : Int} (h1 : -4194304 ≤ lo) (h2 : hi ≤ 4194304) (h : lo ≤ hi) (h3 : -4194304 ≤ n) (h4 : n ≤ 4194304) : -8388608 ≤ farI n lo hi ∧ farI n lo hi ≤ 8388608 := by
  unfold farI
  split
  · omega
  split <;> omega

theorem gap_eq (x y a b c d : Int) (hac : a ≤ c) (hbd : b ≤ d) : gap x y a b c d = farI x a c * farI x a c + farI y b d * farI y b d := by
  have one : ∀ n lo hi : Int, lo ≤ hi → (n - nearestI n lo hi) * (n - nearestI n lo hi) = farI n lo hi * farI n lo hi := by
    intro n lo hi h
    unfold nearestI farI
    by_cases h1 : n < lo
    · simp only [h1, if_true]
      rw [← Int.neg_mul_neg (lo - n), Int.neg_sub]
    · by_cases h2 : hi < n
      · simp [h1, h2]
      · simp [h1, h2]
  unfold gap dist
  rw [one x a c hac, one y b d hbd]

set_option maxHeartbeats 1000000 in
theorem rgap_any (x y a b c d : Int) (w : World) (h1 : reachB x y = true) (h2 : rightB a b c d = true) :
    Calls Tryd.prog 31 #[.agg #[.int .i64 x, .int .i64 y], .agg #[.int .i64 a, .int .i64 b, .int .i64 c, .int .i64 d]] w fun e w' => e = .returned (.int .i64 (gap x y a b c d)) ∧ Below w.heap.size w w' := by
  obtain ⟨⟨k1, k2⟩, ⟨k3, k4⟩, ⟨k5, k6⟩, ⟨k7, k8⟩, hac, hbd⟩ := right_bd h2
  obtain ⟨⟨m1, m2⟩, m3, m4⟩ := reach_bd h1
  have H : Hid (gap x y a b c d = farI x a c * farI x a c + farI y b d * farI y b d) := gap_eq x y a b c d hac hbd
  have hx := fun W => far_any x a c W ⟨m1, m2⟩ ⟨k1, k2⟩ ⟨k5, k6⟩
  have hy := fun W => far_any y b d W ⟨m3, m4⟩ ⟨k3, k4⟩ ⟨k7, k8⟩
  obtain ⟨f1, f2⟩ := far_bd (n := x) k1 k6 hac m1 m2
  obtain ⟨f3, f4⟩ := far_bd (n := y) k3 k8 hbd m3 m4
  obtain ⟨c1, c2⟩ := sq_bd f1 f2
  obtain ⟨c3, c4⟩ := sq_bd f3 f4
  clear h1 h2 k1 k2 k3 k4 k5 k6 k7 k8 m1 m2 m3 m4 f1 f2 f3 f4
  have HX := Lib.hid hx
  have HY := Lib.hid hy
  clear hx hy
  go_enter Tryd.func31, Tryd.ntmps31
  go_wp2_with fail
  go_region_held3 (fun w' => Below ((w.alloc (.cells #[.int .i64 x, .int .i64 y] 23)).alloc (.cells #[.int .i64 a, .int .i64 b, .int .i64 c, .int .i64 d] 26)).heap.size ((w.alloc (.cells #[.int .i64 x, .int .i64 y] 23)).alloc (.cells #[.int .i64 a, .int .i64 b, .int .i64 c, .int .i64 d] 26)) w' ∧ ∀ b_1 o, b_1 < ((w.alloc (.cells #[.int .i64 x, .int .i64 y] 23)).alloc (.cells #[.int .i64 a, .int .i64 b, .int .i64 c, .int .i64 d] 26)).heap.size → w'.cell? ⟨b_1, o, none⟩ = ((w.alloc (.cells #[.int .i64 x, .int .i64 y] 23)).alloc (.cells #[.int .i64 a, .int .i64 b, .int .i64 c, .int .i64 d] 26)).cell? ⟨b_1, o, none⟩) (first | exact keep0 _ | exact keepB (by assumption) hb1 | assumption)
    (first
      | (go_at_call_of 43 (Value.int .i64 a); refine (HX.out _).mono ?_; rintro e w1 ⟨rfl, rfl⟩)
      | (go_at_call_of 43 (Value.int .i64 b); refine (HY.out _).mono ?_; rintro e w1 ⟨rfl, rfl⟩))
  go_wp2
  go_ret
  exact ⟨ret_int H.out.symm, (by repeat (first | exact Below.refl _ _ | apply Ba | apply Bd | apply Bn | (refine Bt ?_ (by assumption)) | (refine Bs ?_ (by first | (simp; done) | (simp; omega)) _)))⟩

/-! ### Centre -/
theorem middle_any (lo hi : Int) (w : World) (h1 : -4194304 ≤ lo ∧ lo ≤ 4194304) (h2 : -4194304 ≤ hi ∧ hi ≤ 4194304) :
    Calls Tryd.prog 44 #[.int .i64 lo, .int .i64 hi] w fun e w' => e = .returned (.int .i64 ((lo + hi) / 2)) ∧ w = w' := by
  obtain ⟨a1, a2⟩ := h1
  obtain ⟨a3, a4⟩ := h2
  go_enter Tryd.func44, Tryd.ntmps44
  go_wp2
  go_ret
  exact ⟨ret_int rfl, rfl⟩

theorem half_any (n : Int) (w : World) (h1 : -8388608 ≤ n ∧ n ≤ 8388608) :
    Calls Tryd.prog 33 #[.int .i64 n] w fun e w' => e = .returned (.int .i64 (n / 2)) ∧ w = w' := by
  obtain ⟨a1, a2⟩ := h1
  by_cases h : n < 0
  · have hq : 0 ≤ 1 - n := by omega
    go_enter Tryd.func33, Tryd.ntmps33
    go_wp2
    go_ret
    exact ⟨ret_int (by omega), rfl⟩
  · have hq : 0 ≤ n := by omega
    go_enter Tryd.func33, Tryd.ntmps33
    go_wp2
    go_ret
    exact ⟨ret_int (by omega), rfl⟩

theorem ret_pointnil {a b c d : Int} (h : a = c) (k : b = d) : Ending.returned (.tuple #[.agg #[.int .i64 a, .int .i64 b], .nilIface]) = Ending.returned (.tuple #[.agg #[.int .i64 c, .int .i64 d], .nilIface]) := by rw [h, k]

set_option maxHeartbeats 1000000 in
theorem centre_no (a b c d : Int) (w : World) (ea : Addr) (hg : w.cell? ⟨6, 0, none⟩ = some (.iface 82 (.pointer (some ea)))) (h2 : rightB a b c d = false) :
    Calls Tryd.prog 32 #[.agg #[.int .i64 a, .int .i64 b, .int .i64 c, .int .i64 d]] w fun e w' => e = .returned (.tuple #[.agg #[.int .i64 0, .int .i64 0], .iface 82 (.pointer (some ea))]) ∧ Below w.heap.size w w' := by
  have hlt : 6 < w.heap.size := cell_lt hg
  go_enter Tryd.func32, Tryd.ntmps32
  go_wp2_with (go_at_call 20; refine (bool_is h2 (right_any _ _ _ _ _)).mono ?_; rintro e w1 ⟨rfl, hb1⟩; obtain ⟨hc1, hf1⟩ := bcell hb1; have hz0 : w.heap.size < w1.heap.size := Bl hb1 (by first | assumption | (simp; done) | (simp; omega)); have hz1 : w.heap.size + 1 < w1.heap.size := Bl hb1 (by first | assumption | (simp; done) | (simp; omega)); have hg1 := Bc ((by repeat (first | exact Below.refl _ _ | apply Ba | apply Bd | apply Bn | (refine Bt ?_ (by assumption)) | (refine Bs ?_ (by first | (simp; done) | (simp; omega)) _))) : Below w.heap.size w w1) hlt hg)
  go_region
  go_wp2
  exact bodyPost_ret (v := .tuple #[.agg #[.int .i64 0, .int .i64 0], .iface 82 (.pointer (some ea))]) (by simp [results, Tryd.results32, go_sem, *]) rfl ⟨rfl, (by repeat (first | exact Below.refl _ _ | apply Ba | apply Bd | apply Bn | (refine Bt ?_ (by assumption)) | (refine Bs ?_ (by first | (simp; done) | (simp; omega)) _)))⟩

set_option maxRecDepth 100000 in
set_option maxHeartbeats 2000000 in
theorem centre_yes (a b c d : Int) (w : World) (h2 : rightB a b c d = true) :
    Calls Tryd.prog 32 #[.agg #[.int .i64 a, .int .i64 b, .int .i64 c, .int .i64 d]] w fun e w' => e = .returned (.tuple #[.agg #[.int .i64 ((a + c) / 2), .int .i64 ((b + d) / 2)], .nilIface]) ∧ Below w.heap.size w w' := by
  obtain ⟨k1, k2, k3, k4, _, _⟩ := right_bd h2
  have HX := Lib.hid (fun W => middle_any a c W k1 k3)
  have HY := Lib.hid (fun W => middle_any b d W k2 k4)
  clear k1 k2 k3 k4
  go_enter Tryd.func32, Tryd.ntmps32
  go_wp2_with (go_at_call 20; refine (bool_is h2 (right_any _ _ _ _ _)).mono ?_; rintro e w1 ⟨rfl, hb1⟩; obtain ⟨hc1, hf1⟩ := bcell hb1; have hz0 : w.heap.size < w1.heap.size := Bl hb1 (by first | assumption | (simp; done) | (simp; omega)); have hz1 : w.heap.size + 1 < w1.heap.size := Bl hb1 (by first | assumption | (simp; done) | (simp; omega)))
  refine wp_region_still_tail 11 (by kernel_rfl) (by kernel_rfl) ?_
  simp only [List.take_succ_cons, List.take_zero, List.drop_succ_cons, List.drop_zero]
  still_step
  still_step
  still_step
  still_step
  still_call ((HX.out _).mono fun _ _ ⟨he, hw⟩ => ⟨he, hw.symm⟩)
  still_step
  still_step
  still_step
  still_step
  still_call ((HY.out _).mono fun _ _ ⟨he, hw⟩ => ⟨he, hw.symm⟩)
  still_step
  refine wpStill_nil ?_
  change wpList _ _ _ _ _ w1.drew
  go_wp2
  exact bodyPost_ret (v := .tuple #[.agg #[.int .i64 ((a + c) / 2), .int .i64 ((b + d) / 2)], .nilIface]) (by simp [results, Tryd.results32, go_sem, *]) rfl ⟨rfl, (by repeat (first | exact Below.refl _ _ | apply Ba | apply Bd | apply Bn | (refine Bt ?_ (by assumption)) | (refine Bs ?_ (by first | (simp; done) | (simp; omega)) _)))⟩

end Go.Proofs.YtnmjpjjomonbnaaDoor
