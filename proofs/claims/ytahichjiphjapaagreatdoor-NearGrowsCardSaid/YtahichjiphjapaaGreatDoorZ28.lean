import Derived.Test.YtahichjiphjapaaGreatDoorZ5
import Derived.StillTailTactics
import Derived.Stop.Asserts

/-
  Package plane: Has, Meets, Inside, the centre (of stage 1, over Pw11).
-/
namespace Go.Proofs.YtahichjiphjapaaGreatDoor
set_option linter.unusedSimpArgs false
set_option linter.unusedVariables false
open Go.RowKit Go.Sort Go.Lib Go.Shelf

theorem right_okR (a b c d : Int) : rightB a b c d = okR (a, b, c, d) := by
  rw [Bool.eq_iff_iff, okR_iff]
  simp only [rightB, reachB, bothB, btw, Bool.and_eq_true, decide_eq_true_eq]
  omega
theorem right_bd {a b c d : Int} (h : rightB a b c d = true) : (-4194304 ≤ a ∧ a ≤ 4194304) ∧ (-4194304 ≤ b ∧ b ≤ 4194304) ∧ (-4194304 ≤ c ∧ c ≤ 4194304) ∧ (-4194304 ≤ d ∧ d ≤ 4194304) ∧ a ≤ c ∧ b ≤ d := by
  rw [right_okR, okR_iff] at h
  dsimp only at h
  omega
def phasB (a b c d x y : Int) : Bool := rightB a b c d && (btw x a c && btw y b d)

theorem phas_any (a b c d x y : Int) (w : World) :
    Calls Tryz.prog 51 #[.agg #[.int .i64 a, .int .i64 b, .int .i64 c, .int .i64 d], .agg #[.int .i64 x, .int .i64 y]] w fun e w' => e = .returned (.bool (phasB a b c d x y)) ∧ Below w.heap.size w w' := by
  go_enter Tryz.func51, Tryz.ntmps51
  go_wp2_with (first | (go_at_call 81; refine (right_any _ _ _ _ _).mono ?_; rintro e w1 ⟨rfl, hb1⟩; obtain ⟨hc1, hf1⟩ := bcell hb1; obtain ⟨hz1, hy1⟩ := bz2 hb1) | (go_at_call 82; refine (between_any _ _ _ _).mono ?_; rintro e w' ⟨rfl, rfl⟩))
  all_goals (go_ret; exact ⟨ret_bool (by simp [phasB, *] <;> omega), (by repeat (first | with_reducible exact Below.refl _ _ | with_reducible assumption | with_reducible apply Ba | with_reducible apply Bd | with_reducible apply Bn | with_reducible apply Bg | (with_reducible refine Bs ?_ (by first | (simp; done) | (simp; omega)) _) | (with_reducible refine Bt ?_ (by assumption)) | (with_reducible refine Bt ?_ (Gr.below (by assumption)))))⟩)

def meetsB (a b c d p q r s : Int) : Bool := rightB a b c d && (rightB p q r s && (decide (a ≤ r) && (decide (p ≤ c) && (decide (b ≤ s) && decide (q ≤ d)))))

def insideB (a b c d p q r s : Int) : Bool := rightB a b c d && (phasB p q r s a b && phasB p q r s c d)

set_option maxHeartbeats 400000 in
theorem inside_any (a b c d p q r s : Int) (w : World) :
    Calls Tryz.prog 69 #[.agg #[.int .i64 a, .int .i64 b, .int .i64 c, .int .i64 d], .agg #[.int .i64 p, .int .i64 q, .int .i64 r, .int .i64 s]] w fun e w' => e = .returned (.bool (insideB a b c d p q r s)) ∧ Below w.heap.size w w' := by
  go_enter Tryz.func69, Tryz.ntmps69
  go_wp2_with (first
    | (go_at_call 98; refine (corners_any _ _ _ _ _).mono ?_; rintro e w1 ⟨rfl, hb1⟩; obtain ⟨hc1, hf1⟩ := bcell hb1; obtain ⟨hz1, hy1⟩ := bz2 hb1)
    | (go_at_call 81; refine (right_any _ _ _ _ _).mono ?_; rintro e w2 ⟨rfl, hb2⟩; obtain ⟨hc2, hf2⟩ := bcell hb2; obtain ⟨hz2, hy2⟩ := bz2 hb2; have hx2 : w.heap.size < w2.heap.size := (Nat.lt_trans hz1 hz2); have hu2 : w.heap.size + 1 < w2.heap.size := (Nat.lt_trans hy1 hz2))
    | (go_at_call 51; refine (phas_any _ _ _ _ _ _ _).mono ?_; rintro e w3 ⟨rfl, hb3⟩; obtain ⟨hc3, hf3⟩ := bcell hb3; have hz3 : w1.heap.size < w3.heap.size := (Nat.lt_of_lt_of_le hz2 hb3.size); have hy3 : w1.heap.size + 1 < w3.heap.size := (Nat.lt_of_lt_of_le hy2 hb3.size); have hx3 : w.heap.size < w3.heap.size := (Nat.lt_trans hz1 hz3); have hu3 : w.heap.size + 1 < w3.heap.size := (Nat.lt_trans hy1 hz3))
    | (go_at_call 51; refine (phas_any _ _ _ _ _ _ _).mono ?_; rintro e w4 ⟨rfl, hb4⟩))
  all_goals (go_ret; exact ⟨ret_bool (by simp [insideB, *] <;> omega), (by repeat (first | with_reducible exact Below.refl _ _ | with_reducible assumption | with_reducible apply Ba | with_reducible apply Bd | with_reducible apply Bn | with_reducible apply Bg | (with_reducible refine Bs ?_ (by first | (simp; done) | (simp; omega)) _) | (with_reducible refine Bt ?_ (by assumption)) | (with_reducible refine Bt ?_ (Gr.below (by assumption)))))⟩)

theorem middle_any (lo hi : Int) (w : World) (h1 : -4194304 ≤ lo ∧ lo ≤ 4194304) (h2 : -4194304 ≤ hi ∧ hi ≤ 4194304) :
    Calls Tryz.prog 96 #[.int .i64 lo, .int .i64 hi] w fun e w' => e = .returned (.int .i64 ((lo + hi) / 2)) ∧ w = w' := by
  obtain ⟨a1, a2⟩ := h1
  obtain ⟨a3, a4⟩ := h2
  go_enter Tryz.func96, Tryz.ntmps96
  go_wp2
  go_ret
  exact ⟨ret_int rfl, rfl⟩

set_option maxHeartbeats 1000000 in
theorem centre_no (a b c d : Int) (w : World) (eF : TypeId × Value) (hg : w.cell? ⟨6, 0, none⟩ = some (.iface eF.1 eF.2)) (h2 : rightB a b c d = false) :
    Calls Tryz.prog 64 #[.agg #[.int .i64 a, .int .i64 b, .int .i64 c, .int .i64 d]] w fun e w' => e = .returned (.tuple #[.agg #[.int .i64 0, .int .i64 0], .iface eF.1 eF.2]) ∧ Below w.heap.size w w' := by
  have hlt : 6 < w.heap.size := cell_lt hg
  go_enter Tryz.func64, Tryz.ntmps64
  go_wp2_with (go_at_call 81; refine (bool_is h2 (right_any _ _ _ _ _)).mono ?_; rintro e w1 ⟨rfl, hb1⟩; obtain ⟨hc1, hf1⟩ := bcell hb1; have hz0 : w.heap.size < w1.heap.size := Bl hb1 (by first | assumption | (simp; done) | (simp; omega)); have hz1 : w.heap.size + 1 < w1.heap.size := Bl hb1 (by first | assumption | (simp; done) | (simp; omega)); have hg1 := Bc ((by repeat (first | with_reducible exact Below.refl _ _ | with_reducible assumption | with_reducible apply Ba | with_reducible apply Bd | with_reducible apply Bn | with_reducible apply Bg | (with_reducible refine Bs ?_ (by first | (simp; done) | (simp; omega)) _) | (with_reducible refine Bt ?_ (by assumption)) | (with_reducible refine Bt ?_ (Gr.below (by assumption))))) : Below w.heap.size w w1) hlt hg)
  go_region
  go_wp2
  exact bodyPost_ret (v := .tuple #[.agg #[.int .i64 0, .int .i64 0], .iface eF.1 eF.2]) (by simp [results, Tryz.results64, go_sem, *]) rfl ⟨rfl, (by repeat (first | with_reducible exact Below.refl _ _ | with_reducible assumption | with_reducible apply Ba | with_reducible apply Bd | with_reducible apply Bn | with_reducible apply Bg | (with_reducible refine Bs ?_ (by first | (simp; done) | (simp; omega)) _) | (with_reducible refine Bt ?_ (by assumption)) | (with_reducible refine Bt ?_ (Gr.below (by assumption)))))⟩

set_option maxRecDepth 100000 in
set_option maxHeartbeats 2000000 in
theorem centre_yes (a b c d : Int) (w : World) (h2 : rightB a b c d = true) :
    Calls Tryz.prog 64 #[.agg #[.int .i64 a, .int .i64 b, .int .i64 c, .int .i64 d]] w fun e w' => e = .returned (.tuple #[.agg #[.int .i64 ((a + c) / 2), .int .i64 ((b + d) / 2)], .nilIface]) ∧ Below w.heap.size w w' := by
  obtain ⟨k1, k2, k3, k4, _, _⟩ := right_bd h2
  have HX := Lib.hid (fun W => middle_any a c W k1 k3)
  have HY := Lib.hid (fun W => middle_any b d W k2 k4)
  clear k1 k2 k3 k4
  go_enter Tryz.func64, Tryz.ntmps64
  go_wp2_with (go_at_call 81; refine (bool_is h2 (right_any _ _ _ _ _)).mono ?_; rintro e w1 ⟨rfl, hb1⟩; obtain ⟨hc1, hf1⟩ := bcell hb1; have hz0 : w.heap.size < w1.heap.size := Bl hb1 (by first | assumption | (simp; done) | (simp; omega)); have hz1 : w.heap.size + 1 < w1.heap.size := Bl hb1 (by first | assumption | (simp; done) | (simp; omega)))
  refine wp_region_still_tail 11 (by kernel_rfl) (by kernel_rfl) ?_
  simp only [List.take_succ_cons, List.take_zero, List.drop_succ_cons, List.drop_zero]
  still_step
  still_step
  still_step
  still_step
  still_call ((HX.out _).mono fun _ _ ⟨he, hw⟩ => ⟨he, hw.symm⟩)
  still_step
  still_step
  still_step
  still_step
  still_call ((HY.out _).mono fun _ _ ⟨he, hw⟩ => ⟨he, hw.symm⟩)
  still_step
  refine wpStill_nil ?_
  change wpList _ _ _ _ _ w1.drew
  go_wp2
  exact bodyPost_ret (v := .tuple #[.agg #[.int .i64 ((a + c) / 2), .int .i64 ((b + d) / 2)], .nilIface]) (by simp [results, Tryz.results64, go_sem, *]) rfl ⟨rfl, (by repeat (first | with_reducible exact Below.refl _ _ | with_reducible assumption | with_reducible apply Ba | with_reducible apply Bd | with_reducible apply Bn | with_reducible apply Bg | (with_reducible refine Bs ?_ (by first | (simp; done) | (simp; omega)) _) | (with_reducible refine Bt ?_ (by assumption)) | (with_reducible refine Bt ?_ (Gr.below (by assumption)))))⟩


theorem meets_is (a q : Bx4) (ha : okR a = true) (hq : okR q = true) : meetsB a.1 a.2.1 a.2.2.1 a.2.2.2 q.1 q.2.1 q.2.2.1 q.2.2.2 = meets4 a q := by
  unfold meetsB meets4
  rw [right_okR, right_okR, ha, hq, Bool.eq_iff_iff]
  simp
  omega
theorem inside_is (a b c d : Int) : insideB a b c d (-2097152) (-2097152) 2097152 2097152 = (okR (a, b, c, d) && okW (a, b, c, d)) := by
  rw [Bool.eq_iff_iff]
  unfold insideB phasB
  rw [right_okR, right_okR, show okR (-2097152, -2097152, 2097152, 2097152) = true from by decide]
  simp only [Bool.and_eq_true, okR_iff, okW_iff, btw, decide_eq_true_eq, Bool.true_and]
  omega
end Go.Proofs.YtahichjiphjapaaGreatDoor
