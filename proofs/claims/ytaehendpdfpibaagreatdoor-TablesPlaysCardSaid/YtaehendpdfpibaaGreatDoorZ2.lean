import Derived.Test.YtaehendpdfpibaaGreatDoorZ1

/-
  The reference's Check (written by mkvd.py).
-/
namespace Go.Proofs.YtaehendpdfpibaaGreatDoor
set_option linter.unusedSimpArgs false
set_option linter.unusedVariables false
open Go.RowKit Go.Sort Go.Lib Go.Shelf

theorem inV_zero (n : Int) : inV n (0, 0) = decide (n = 0) := by
  unfold inV
  rw [Bool.eq_iff_iff]
  simp
  omega
theorem in_it (n lo hi : Int) (w : World) (q : Bool) (h : inV n (lo, hi) = q) : Calls Tryz.prog 135 #[.int .i64 n, .int .i64 lo, .int .i64 hi] w fun e w' => e = .returned (.bool q) ∧ w = w' := by
  rw [← h]
  exact in_any n lo hi w

set_option maxHeartbeats 1000000 in
set_option maxRecDepth 100000 in
theorem rcheck_0 (a b : Int) (w : World) : Calls Tryz.prog 88 #[aggV (0, a, b)] w fun e w' => e = .returned (.int .i64 (chk (0, a, b) : Nat)) ∧ Gr w w' := by
  unfold aggV
  dsimp only
  rw [show chk (0, a, b) = if inV a ((-1048576), 1048576) && inV b ((-1048576), 1048576) then 0 else 1 from by simp [chk, kindB, rngV]]
  cases ha : inV a ((-1048576), 1048576) <;> cases hb : inV b ((-1048576), 1048576)
  all_goals
    go_enter Tryz.func88, Tryz.ntmps88
    go_wp2_with (first | (go_at_call 135; refine (in_it _ _ _ _ _ (by assumption)).mono ?_; rintro e w1 ⟨rfl, rfl⟩))
    go_ret
    exact ⟨rfl, (by repeat (first | with_reducible exact Gr.refl _ | with_reducible assumption | with_reducible apply Gr.alloc | with_reducible apply Gr.drewN | with_reducible apply Gr.drew | with_reducible apply Gr.grow | (with_reducible refine Gr.trans ?_ (by assumption))))⟩

set_option maxHeartbeats 1000000 in
set_option maxRecDepth 100000 in
theorem rcheck_1 (a b : Int) (w : World) : Calls Tryz.prog 88 #[aggV (1, a, b)] w fun e w' => e = .returned (.int .i64 (chk (1, a, b) : Nat)) ∧ Gr w w' := by
  unfold aggV
  dsimp only
  rw [show chk (1, a, b) = if inV a (0, 1048576) && inV b (0, 1048576) then 0 else 1 from by simp [chk, kindB, rngV]]
  cases ha : inV a (0, 1048576) <;> cases hb : inV b (0, 1048576)
  all_goals
    go_enter Tryz.func88, Tryz.ntmps88
    go_wp2_with (first | (go_at_call 135; refine (in_it _ _ _ _ _ (by assumption)).mono ?_; rintro e w1 ⟨rfl, rfl⟩))
    go_ret
    exact ⟨rfl, (by repeat (first | with_reducible exact Gr.refl _ | with_reducible assumption | with_reducible apply Gr.alloc | with_reducible apply Gr.drewN | with_reducible apply Gr.drew | with_reducible apply Gr.grow | (with_reducible refine Gr.trans ?_ (by assumption))))⟩

set_option maxHeartbeats 1000000 in
set_option maxRecDepth 100000 in
theorem rcheck_2 (a b : Int) (w : World) : Calls Tryz.prog 88 #[aggV (2, a, b)] w fun e w' => e = .returned (.int .i64 (chk (2, a, b) : Nat)) ∧ Gr w w' := by
  unfold aggV
  dsimp only
  rw [show chk (2, a, b) = if inV a ((-1048576), 1048576) && inV b ((-1048576), 1048576) then 0 else 1 from by simp [chk, kindB, rngV]]
  cases ha : inV a ((-1048576), 1048576) <;> cases hb : inV b ((-1048576), 1048576)
  all_goals
    go_enter Tryz.func88, Tryz.ntmps88
    go_wp2_with (first | (go_at_call 135; refine (in_it _ _ _ _ _ (by assumption)).mono ?_; rintro e w1 ⟨rfl, rfl⟩))
    go_ret
    exact ⟨rfl, (by repeat (first | with_reducible exact Gr.refl _ | with_reducible assumption | with_reducible apply Gr.alloc | with_reducible apply Gr.drewN | with_reducible apply Gr.drew | with_reducible apply Gr.grow | (with_reducible refine Gr.trans ?_ (by assumption))))⟩

set_option maxHeartbeats 1000000 in
set_option maxRecDepth 100000 in
theorem rcheck_3 (a b : Int) (w : World) : Calls Tryz.prog 88 #[aggV (3, a, b)] w fun e w' => e = .returned (.int .i64 (chk (3, a, b) : Nat)) ∧ Gr w w' := by
  unfold aggV
  dsimp only
  rw [show chk (3, a, b) = if inV a (0, 0) && inV b (0, 0) then 0 else 1 from by simp [chk, kindB, rngV]]
  rw [inV_zero a, inV_zero b]
  by_cases ha : a = 0 <;> by_cases hb : b = 0
  · subst ha; subst hb
    go_enter Tryz.func88, Tryz.ntmps88
    go_wp2_with (first | (go_at_call 135; refine (in_it _ _ _ _ _ (by assumption)).mono ?_; rintro e w1 ⟨rfl, rfl⟩))
    go_ret
    exact ⟨rfl, (by repeat (first | with_reducible exact Gr.refl _ | with_reducible assumption | with_reducible apply Gr.alloc | with_reducible apply Gr.drewN | with_reducible apply Gr.drew | with_reducible apply Gr.grow | (with_reducible refine Gr.trans ?_ (by assumption))))⟩
  · subst ha; rw [decide_eq_false hb]
    have hbb : (b == 0) = false := beq_eq_false_iff_ne.2 hb
    go_enter Tryz.func88, Tryz.ntmps88
    go_wp2_with (first | (go_at_call 135; refine (in_it _ _ _ _ _ (by assumption)).mono ?_; rintro e w1 ⟨rfl, rfl⟩))
    go_ret
    exact ⟨rfl, (by repeat (first | with_reducible exact Gr.refl _ | with_reducible assumption | with_reducible apply Gr.alloc | with_reducible apply Gr.drewN | with_reducible apply Gr.drew | with_reducible apply Gr.grow | (with_reducible refine Gr.trans ?_ (by assumption))))⟩
  · subst hb; rw [decide_eq_false ha]
    have haa : (a == 0) = false := beq_eq_false_iff_ne.2 ha
    go_enter Tryz.func88, Tryz.ntmps88
    go_wp2_with (first | (go_at_call 135; refine (in_it _ _ _ _ _ (by assumption)).mono ?_; rintro e w1 ⟨rfl, rfl⟩))
    go_ret
    exact ⟨rfl, (by repeat (first | with_reducible exact Gr.refl _ | with_reducible assumption | with_reducible apply Gr.alloc | with_reducible apply Gr.drewN | with_reducible apply Gr.drew | with_reducible apply Gr.grow | (with_reducible refine Gr.trans ?_ (by assumption))))⟩
  · rw [decide_eq_false ha, decide_eq_false hb]
    have haa : (a == 0) = false := beq_eq_false_iff_ne.2 ha
    go_enter Tryz.func88, Tryz.ntmps88
    go_wp2_with (first | (go_at_call 135; refine (in_it _ _ _ _ _ (by assumption)).mono ?_; rintro e w1 ⟨rfl, rfl⟩))
    go_ret
    exact ⟨rfl, (by repeat (first | with_reducible exact Gr.refl _ | with_reducible assumption | with_reducible apply Gr.alloc | with_reducible apply Gr.drewN | with_reducible apply Gr.drew | with_reducible apply Gr.grow | (with_reducible refine Gr.trans ?_ (by assumption))))⟩

set_option maxHeartbeats 1000000 in
set_option maxRecDepth 100000 in
theorem rcheck_4 (a b : Int) (w : World) : Calls Tryz.prog 88 #[aggV (4, a, b)] w fun e w' => e = .returned (.int .i64 (chk (4, a, b) : Nat)) ∧ Gr w w' := by
  unfold aggV
  dsimp only
  rw [show chk (4, a, b) = if inV a (0, 255) && inV b (0, 0) then 0 else 1 from by simp [chk, kindB, rngV]]
  rw [inV_zero b]
  cases ha : inV a (0, 255) <;> by_cases hb : b = 0
  · subst hb
    go_enter Tryz.func88, Tryz.ntmps88
    go_wp2_with (first | (go_at_call 135; refine (in_it _ _ _ _ _ (by assumption)).mono ?_; rintro e w1 ⟨rfl, rfl⟩))
    go_ret
    exact ⟨rfl, (by repeat (first | with_reducible exact Gr.refl _ | with_reducible assumption | with_reducible apply Gr.alloc | with_reducible apply Gr.drewN | with_reducible apply Gr.drew | with_reducible apply Gr.grow | (with_reducible refine Gr.trans ?_ (by assumption))))⟩
  · rw [decide_eq_false hb]
    have hbb : (b == 0) = false := beq_eq_false_iff_ne.2 hb
    go_enter Tryz.func88, Tryz.ntmps88
    go_wp2_with (first | (go_at_call 135; refine (in_it _ _ _ _ _ (by assumption)).mono ?_; rintro e w1 ⟨rfl, rfl⟩))
    go_ret
    exact ⟨rfl, (by repeat (first | with_reducible exact Gr.refl _ | with_reducible assumption | with_reducible apply Gr.alloc | with_reducible apply Gr.drewN | with_reducible apply Gr.drew | with_reducible apply Gr.grow | (with_reducible refine Gr.trans ?_ (by assumption))))⟩
  · subst hb
    go_enter Tryz.func88, Tryz.ntmps88
    go_wp2_with (first | (go_at_call 135; refine (in_it _ _ _ _ _ (by assumption)).mono ?_; rintro e w1 ⟨rfl, rfl⟩))
    go_ret
    exact ⟨rfl, (by repeat (first | with_reducible exact Gr.refl _ | with_reducible assumption | with_reducible apply Gr.alloc | with_reducible apply Gr.drewN | with_reducible apply Gr.drew | with_reducible apply Gr.grow | (with_reducible refine Gr.trans ?_ (by assumption))))⟩
  · rw [decide_eq_false hb]
    have hbb : (b == 0) = false := beq_eq_false_iff_ne.2 hb
    go_enter Tryz.func88, Tryz.ntmps88
    go_wp2_with (first | (go_at_call 135; refine (in_it _ _ _ _ _ (by assumption)).mono ?_; rintro e w1 ⟨rfl, rfl⟩))
    go_ret
    exact ⟨rfl, (by repeat (first | with_reducible exact Gr.refl _ | with_reducible assumption | with_reducible apply Gr.alloc | with_reducible apply Gr.drewN | with_reducible apply Gr.drew | with_reducible apply Gr.grow | (with_reducible refine Gr.trans ?_ (by assumption))))⟩

set_option maxHeartbeats 1000000 in
set_option maxRecDepth 100000 in
theorem rcheck_5 (a b : Int) (w : World) : Calls Tryz.prog 88 #[aggV (5, a, b)] w fun e w' => e = .returned (.int .i64 (chk (5, a, b) : Nat)) ∧ Gr w w' := by
  unfold aggV
  dsimp only
  rw [show chk (5, a, b) = if inV a (0, 1048576) && inV b (0, 0) then 0 else 1 from by simp [chk, kindB, rngV]]
  rw [inV_zero b]
  cases ha : inV a (0, 1048576) <;> by_cases hb : b = 0
  · subst hb
    go_enter Tryz.func88, Tryz.ntmps88
    go_wp2_with (first | (go_at_call 135; refine (in_it _ _ _ _ _ (by assumption)).mono ?_; rintro e w1 ⟨rfl, rfl⟩))
    go_ret
    exact ⟨rfl, (by repeat (first | with_reducible exact Gr.refl _ | with_reducible assumption | with_reducible apply Gr.alloc | with_reducible apply Gr.drewN | with_reducible apply Gr.drew | with_reducible apply Gr.grow | (with_reducible refine Gr.trans ?_ (by assumption))))⟩
  · rw [decide_eq_false hb]
    have hbb : (b == 0) = false := beq_eq_false_iff_ne.2 hb
    go_enter Tryz.func88, Tryz.ntmps88
    go_wp2_with (first | (go_at_call 135; refine (in_it _ _ _ _ _ (by assumption)).mono ?_; rintro e w1 ⟨rfl, rfl⟩))
    go_ret
    exact ⟨rfl, (by repeat (first | with_reducible exact Gr.refl _ | with_reducible assumption | with_reducible apply Gr.alloc | with_reducible apply Gr.drewN | with_reducible apply Gr.drew | with_reducible apply Gr.grow | (with_reducible refine Gr.trans ?_ (by assumption))))⟩
  · subst hb
    go_enter Tryz.func88, Tryz.ntmps88
    go_wp2_with (first | (go_at_call 135; refine (in_it _ _ _ _ _ (by assumption)).mono ?_; rintro e w1 ⟨rfl, rfl⟩))
    go_ret
    exact ⟨rfl, (by repeat (first | with_reducible exact Gr.refl _ | with_reducible assumption | with_reducible apply Gr.alloc | with_reducible apply Gr.drewN | with_reducible apply Gr.drew | with_reducible apply Gr.grow | (with_reducible refine Gr.trans ?_ (by assumption))))⟩
  · rw [decide_eq_false hb]
    have hbb : (b == 0) = false := beq_eq_false_iff_ne.2 hb
    go_enter Tryz.func88, Tryz.ntmps88
    go_wp2_with (first | (go_at_call 135; refine (in_it _ _ _ _ _ (by assumption)).mono ?_; rintro e w1 ⟨rfl, rfl⟩))
    go_ret
    exact ⟨rfl, (by repeat (first | with_reducible exact Gr.refl _ | with_reducible assumption | with_reducible apply Gr.alloc | with_reducible apply Gr.drewN | with_reducible apply Gr.drew | with_reducible apply Gr.grow | (with_reducible refine Gr.trans ?_ (by assumption))))⟩

set_option maxHeartbeats 1000000 in
set_option maxRecDepth 100000 in
theorem rcheck_6 (a b : Int) (w : World) : Calls Tryz.prog 88 #[aggV (6, a, b)] w fun e w' => e = .returned (.int .i64 (chk (6, a, b) : Nat)) ∧ Gr w w' := by
  unfold aggV
  dsimp only
  rw [show chk (6, a, b) = if inV a ((-4194304), 4194304) && inV b ((-4194304), 4194304) then 0 else 1 from by simp [chk, kindB, rngV]]
  cases ha : inV a ((-4194304), 4194304) <;> cases hb : inV b ((-4194304), 4194304)
  all_goals
    go_enter Tryz.func88, Tryz.ntmps88
    go_wp2_with (first | (go_at_call 135; refine (in_it _ _ _ _ _ (by assumption)).mono ?_; rintro e w1 ⟨rfl, rfl⟩))
    go_ret
    exact ⟨rfl, (by repeat (first | with_reducible exact Gr.refl _ | with_reducible assumption | with_reducible apply Gr.alloc | with_reducible apply Gr.drewN | with_reducible apply Gr.drew | with_reducible apply Gr.grow | (with_reducible refine Gr.trans ?_ (by assumption))))⟩

set_option maxHeartbeats 1000000 in
set_option maxRecDepth 100000 in
theorem rcheck_7 (a b : Int) (w : World) : Calls Tryz.prog 88 #[aggV (7, a, b)] w fun e w' => e = .returned (.int .i64 (chk (7, a, b) : Nat)) ∧ Gr w w' := by
  unfold aggV
  dsimp only
  rw [show chk (7, a, b) = if inV a ((-4194304), 4194304) && inV b ((-4194304), 4194304) then 0 else 1 from by simp [chk, kindB, rngV]]
  cases ha : inV a ((-4194304), 4194304) <;> cases hb : inV b ((-4194304), 4194304)
  all_goals
    go_enter Tryz.func88, Tryz.ntmps88
    go_wp2_with (first | (go_at_call 135; refine (in_it _ _ _ _ _ (by assumption)).mono ?_; rintro e w1 ⟨rfl, rfl⟩))
    go_ret
    exact ⟨rfl, (by repeat (first | with_reducible exact Gr.refl _ | with_reducible assumption | with_reducible apply Gr.alloc | with_reducible apply Gr.drewN | with_reducible apply Gr.drew | with_reducible apply Gr.grow | (with_reducible refine Gr.trans ?_ (by assumption))))⟩

set_option maxHeartbeats 1000000 in
set_option maxRecDepth 100000 in
theorem rcheck_8 (a b : Int) (w : World) : Calls Tryz.prog 88 #[aggV (8, a, b)] w fun e w' => e = .returned (.int .i64 (chk (8, a, b) : Nat)) ∧ Gr w w' := by
  unfold aggV
  dsimp only
  rw [show chk (8, a, b) = if inV a ((-4194304), 4194304) && inV b ((-4194304), 4194304) then 0 else 1 from by simp [chk, kindB, rngV]]
  cases ha : inV a ((-4194304), 4194304) <;> cases hb : inV b ((-4194304), 4194304)
  all_goals
    go_enter Tryz.func88, Tryz.ntmps88
    go_wp2_with (first | (go_at_call 135; refine (in_it _ _ _ _ _ (by assumption)).mono ?_; rintro e w1 ⟨rfl, rfl⟩))
    go_ret
    exact ⟨rfl, (by repeat (first | with_reducible exact Gr.refl _ | with_reducible assumption | with_reducible apply Gr.alloc | with_reducible apply Gr.drewN | with_reducible apply Gr.drew | with_reducible apply Gr.grow | (with_reducible refine Gr.trans ?_ (by assumption))))⟩

set_option maxHeartbeats 1000000 in
set_option maxRecDepth 100000 in
theorem rcheck_9 (a b : Int) (w : World) : Calls Tryz.prog 88 #[aggV (9, a, b)] w fun e w' => e = .returned (.int .i64 (chk (9, a, b) : Nat)) ∧ Gr w w' := by
  unfold aggV
  dsimp only
  rw [show chk (9, a, b) = if inV a ((-4194304), 4194304) && inV b ((-4194304), 4194304) then 0 else 1 from by simp [chk, kindB, rngV]]
  cases ha : inV a ((-4194304), 4194304) <;> cases hb : inV b ((-4194304), 4194304)
  all_goals
    go_enter Tryz.func88, Tryz.ntmps88
    go_wp2_with (first | (go_at_call 135; refine (in_it _ _ _ _ _ (by assumption)).mono ?_; rintro e w1 ⟨rfl, rfl⟩))
    go_ret
    exact ⟨rfl, (by repeat (first | with_reducible exact Gr.refl _ | with_reducible assumption | with_reducible apply Gr.alloc | with_reducible apply Gr.drewN | with_reducible apply Gr.drew | with_reducible apply Gr.grow | (with_reducible refine Gr.trans ?_ (by assumption))))⟩

set_option maxHeartbeats 1000000 in
set_option maxRecDepth 100000 in
theorem rcheck_no (k a b : Int) (hk : kindB k = false) (w : World) : Calls Tryz.prog 88 #[aggV (k, a, b)] w fun e w' => e = .returned (.int .i64 (chk (k, a, b) : Nat)) ∧ Gr w w' := by
  unfold aggV
  dsimp only
  rw [show chk (k, a, b) = 5 from by simp [chk, hk]]
  have h : ¬ (0 ≤ k ∧ k < 10) := fun h => by rw [(kindB_iff k).2 h] at hk; cases hk
  have n0 : ¬ k = 0 := by omega
  have n1 : ¬ k = 1 := by omega
  have n2 : ¬ k = 2 := by omega
  have n3 : ¬ k = 3 := by omega
  have n4 : ¬ k = 4 := by omega
  have n5 : ¬ k = 5 := by omega
  have n6 : ¬ k = 6 := by omega
  have n7 : ¬ k = 7 := by omega
  have n8 : ¬ k = 8 := by omega
  have n9 : ¬ k = 9 := by omega
  clear h hk
  go_enter Tryz.func88, Tryz.ntmps88
  go_wp2
  go_ret
  exact ⟨rfl, (by repeat (first | with_reducible exact Gr.refl _ | with_reducible assumption | with_reducible apply Gr.alloc | with_reducible apply Gr.drewN | with_reducible apply Gr.drew | with_reducible apply Gr.grow | (with_reducible refine Gr.trans ?_ (by assumption))))⟩

theorem rcheck_any (x : Vl) (w : World) : Calls Tryz.prog 88 #[aggV x] w fun e w' => e = .returned (.int .i64 (chk x : Nat)) ∧ Gr w w' := by
  obtain ⟨k, a, b⟩ := x
  cases hk : kindB k
  · exact rcheck_no k a b hk w
  · have h := (kindB_iff k).1 hk
    have h2 : k = 0 ∨ k = 1 ∨ k = 2 ∨ k = 3 ∨ k = 4 ∨ k = 5 ∨ k = 6 ∨ k = 7 ∨ k = 8 ∨ k = 9 := by omega
    rcases h2 with rfl | rfl | rfl | rfl | rfl | rfl | rfl | rfl | rfl | rfl
    · exact rcheck_0 a b w
    · exact rcheck_1 a b w
    · exact rcheck_2 a b w
    · exact rcheck_3 a b w
    · exact rcheck_4 a b w
    · exact rcheck_5 a b w
    · exact rcheck_6 a b w
    · exact rcheck_7 a b w
    · exact rcheck_8 a b w
    · exact rcheck_9 a b w
end Go.Proofs.YtaehendpdfpibaaGreatDoor

/-
  schema.wrong, compare, rising, Drop's closure; Find in the program and in the reference.
-/
namespace Go.Proofs.YtaehendpdfpibaaGreatDoor
set_option linter.unusedSimpArgs false
set_option linter.unusedVariables false
open Go.RowKit Go.Sort Go.Lib Go.Shelf

def wrongB (x : Vl) : Bool := !(chk x == 0)
set_option maxHeartbeats 1000000 in
theorem wrong_any (x : Vl) (A : Nat → Addr) (w : World) (hE : Er w A) : Calls Tryz.prog 116 #[aggV x] w fun e w' => e = .returned (.bool (wrongB x)) ∧ Gr w w' := by
  have HC : Hid (∀ W, Er W A → Calls Tryz.prog 74 #[aggV x] W fun e w' => e = .returned (errV A (chk x)) ∧ Gr W w') := fun W h => check_any x A W h
  have HE := Lib.hid hE
  clear hE
  obtain ⟨k, a, b⟩ := x
  unfold aggV at *
  dsimp only at *
  unfold wrongB
  by_cases h : chk (k, a, b) = 0
  · rw [h] at HC ⊢
    rw [errV_no] at HC
    clear h
    go_enter Tryz.func116, Tryz.ntmps116
    go_wp2_with (go_at_call 74; refine (HC.out _ (HE.out.below (by repeat (first | with_reducible exact Below.refl _ _ | with_reducible assumption | with_reducible apply Ba | with_reducible apply Bd | with_reducible apply Bn | with_reducible apply Bg | (with_reducible refine Bs ?_ (by first | (simp; done) | (simp; omega)) _) | (with_reducible refine Bt ?_ (by assumption)) | (with_reducible refine Bt ?_ (Gr.below (by assumption))))))).mono ?_; rintro e w1 ⟨rfl, hg1⟩)
    go_ret
    exact ⟨rfl, (by repeat (first | with_reducible exact Gr.refl _ | with_reducible assumption | with_reducible apply Gr.alloc | with_reducible apply Gr.drewN | with_reducible apply Gr.drew | with_reducible apply Gr.grow | (with_reducible refine Gr.trans ?_ (by assumption))))⟩
  · rw [errV_at A _ h] at HC
    rw [show (!(chk (k, a, b) == 0)) = true by simp [h]]
    generalize A (chk (k, a, b) - 1) = p at HC
    clear h
    go_enter Tryz.func116, Tryz.ntmps116
    go_wp2_with (go_at_call 74; refine (HC.out _ (HE.out.below (by repeat (first | with_reducible exact Below.refl _ _ | with_reducible assumption | with_reducible apply Ba | with_reducible apply Bd | with_reducible apply Bn | with_reducible apply Bg | (with_reducible refine Bs ?_ (by first | (simp; done) | (simp; omega)) _) | (with_reducible refine Bt ?_ (by assumption)) | (with_reducible refine Bt ?_ (Gr.below (by assumption))))))).mono ?_; rintro e w1 ⟨rfl, hg1⟩)
    go_ret
    exact ⟨rfl, (by repeat (first | with_reducible exact Gr.refl _ | with_reducible assumption | with_reducible apply Gr.alloc | with_reducible apply Gr.drewN | with_reducible apply Gr.drew | with_reducible apply Gr.grow | (with_reducible refine Gr.trans ?_ (by assumption))))⟩

theorem isNaN_any (x : Int) (w : World) : Calls Tryz.prog 164 #[.int .i64 x] w fun e w' => e = .returned (.bool false) ∧ w' = w := by
  go_enter Tryz.func164, Tryz.ntmps164
  go_wp2
  go_ret
  exact ⟨by simp, rfl⟩
set_option maxHeartbeats 1000000 in
theorem cmpI_any (x y : Int) (w : World) : Calls Tryz.prog 148 #[.int .i64 x, .int .i64 y] w fun e w' => e = .returned (.int .i64 (Lib.compareInt x y)) ∧ w' = w := by
  go_enter Tryz.func148, Tryz.ntmps148
  go_wp2_with (go_at_call 164; refine (isNaN_any _ _).mono ?_; rintro e w' ⟨rfl, hw⟩; rw [hw])
  all_goals (go_ret; refine ⟨?_, rfl⟩; unfold Lib.compareInt; (repeat' split) <;> first | rfl | (exfalso; omega))
def cmpV (x y : Vl) : Int := Lib.compareInt x.1 y.1
theorem cmpV_call (x y : Vl) (w : World) : Calls Tryz.prog 123 #[aggV x, aggV y] w fun e w' => e = .returned (.int .i64 (cmpV x y)) ∧ Gr w w' := by
  obtain ⟨k, a, b⟩ := x
  obtain ⟨k2, a2, b2⟩ := y
  unfold aggV cmpV
  dsimp only
  generalize hn : Lib.compareInt k k2 = n
  have HC : Hid (∀ W, Calls Tryz.prog 148 #[.int .i64 k, .int .i64 k2] W fun e w' => e = .returned (.int .i64 n) ∧ w' = W) := fun W => by rw [← hn]; exact cmpI_any k k2 W
  clear hn
  go_enter Tryz.func123, Tryz.ntmps123
  go_wp2_with (go_at_call 148; refine (HC.out _).mono ?_; rintro e w1 ⟨rfl, rfl⟩)
  go_ret
  exact ⟨rfl, (by repeat (first | with_reducible exact Gr.refl _ | with_reducible assumption | with_reducible apply Gr.alloc | with_reducible apply Gr.drewN | with_reducible apply Gr.drew | with_reducible apply Gr.grow | (with_reducible refine Gr.trans ?_ (by assumption))))⟩

/-- Drop's closure: the kind it keeps lies at an address of its own. -/
theorem drop1_any (x : Vl) (k : Int) (p : Addr) (w : World) (hp : w.cell? ⟨p.block, p.off, none⟩ = some (.int .i64 k)) (hpp : p = ⟨p.block, p.off, none⟩) : Calls Tryz.prog 139 #[aggV x, .pointer (some p)] w fun e w' => e = .returned (.bool (x.1 == k)) ∧ Gr w w' := by
  obtain ⟨q, a, b⟩ := x
  obtain ⟨pb, po, pf⟩ := p
  simp only [Addr.mk.injEq, true_and] at hpp
  subst hpp
  unfold aggV
  dsimp only at *
  have hl := cell_lt hp
  go_enter Tryz.func139, Tryz.ntmps139
  go_wp2
  go_ret
  exact ⟨rfl, (by repeat (first | with_reducible exact Gr.refl _ | with_reducible assumption | with_reducible apply Gr.alloc | with_reducible apply Gr.drewN | with_reducible apply Gr.drew | with_reducible apply Gr.grow | (with_reducible refine Gr.trans ?_ (by assumption))))⟩

set_option maxHeartbeats 1000000 in
set_option maxRecDepth 100000 in
theorem rising_call (l : List Vl) (v : Value) (w : World) (hl : Sl encV w v l) : Calls Tryz.prog 114 #[v] w fun e w' => e = .returned (.bool (decide (RiseK l))) ∧ Gr w w' := by
  obtain ⟨p, cap, rfl, hl1, hl2, hl3⟩ := hl
  have HL := Lib.hid hl3
  have hbig : l.length ≤ 9223372036854775807 := by unfold maxLen at hl2; omega
  clear hl3 hl2
  obtain ⟨B, hB⟩ : ∃ B, B = decide (RiseK l) := ⟨_, rfl⟩
  rw [← hB]
  have HB := Lib.hid hB
  clear hB
  go_enter Tryz.func114, Tryz.ntmps114
  go_wp2
  go_loopg [3] l.length (fun gk s3 wr => ∃ q : Nat, s3 = .int .i64 (q + 1 : Nat) ∧ q ≤ l.length ∧ l.length - q ≤ gk ∧ Gr w wr ∧ Hid (RiseK (l.take (q + 1))))
  case atStart => exact ⟨0, by go_num, Nat.zero_le _, by omega, Gr.refl _, rise_take_one l⟩
  case round =>
    obtain ⟨q, rfl, hq, hgk, hg, I⟩ := hrel
    by_cases hqn : q + 1 < l.length
    · obtain ⟨g, o, rfl, hg1, hg2⟩ := HL.out (by omega)
      have c1 := (atV hg2 (show q < l.length by omega)).1
      have c2 := (atV hg2 hqn).1
      have d1 : wr.cell? ⟨g, o + q * 3, none⟩ = some (.int .i64 l[q]!.1) := Bc hg.below hg1 c1
      have d2 : wr.cell? ⟨g, o + (q + 1) * 3, none⟩ = some (.int .i64 l[q + 1]!.1) := Bc hg.below hg1 c2
      have hst : l[q]!.1 < l[q + 1]!.1 → RiseK (l.take (q + 1 + 1)) := fun h => rise_step (by omega) hqn I.out (by simpa using h)
      have hno : l[q + 1]!.1 ≤ l[q]!.1 → B = false := fun h => by rw [HB.out]; exact decide_eq_false (rise_no (i := q + 1) (by omega) hqn (by simpa using h))
      have hgw : g < wr.heap.size := Bl hg.below hg1
      generalize l[q]!.1 = x at *
      generalize l[q + 1]!.1 = y at *
      have HS := Lib.hid hst
      have HN := Lib.hid hno
      have HG := Lib.hid hg
      have e1 : ((q + 1 : Nat) : Int) - 1 = (q : Int) := by omega
      clear hst hno hg c1 c2 hg2
      by_cases hxy : x < y
      · go_wp2_with fail
        go_region
        go_wp2
        go_roundg (l.length - (q + 1))
        case measure => omega
        case rel => exact ⟨q + 1, by go_num, by omega, Nat.le_refl _, HG.out.drewN, HS.out hxy⟩
      · go_wp2_with fail
        go_region
        go_wp2
        go_ret
        exact ⟨by rw [HN.out (by omega)]; rfl, HG.out.drewN⟩
    · have HBT := Lib.hid (show B = true by
        rw [HB.out]
        refine decide_eq_true ?_
        have := I.out
        rwa [List.take_of_length_le (by omega)] at this)
      have HG := Lib.hid hg
      clear hg
      go_wp2
      go_ret
      exact ⟨by rw [HBT.out]; rfl, HG.out⟩
end Go.Proofs.YtaehendpdfpibaaGreatDoor

/-
  Find in the program and in the reference: the first component of a kind.
-/
namespace Go.Proofs.YtaehendpdfpibaaGreatDoor
set_option linter.unusedSimpArgs false
set_option linter.unusedVariables false
open Go.RowKit Go.Sort Go.Lib Go.Shelf

/-- A store into a block that is new since a. -/
theorem Gr.set {a w : World} (h : Gr a w) {p : Addr} (hp : a.heap.size ≤ p.block) (u : Value) : Gr a (w.setCell p u) := by
  obtain ⟨q, os, rfl⟩ := h
  refine ⟨q, os.modify (p.block - a.heap.size) (fun | .cells c elem fr => .cells (if p.spot.isSome then c else c.setIfInBounds p.off u) elem fr | o => o), ?_⟩
  have e : ∀ (f : Obj → Obj) (A B : Array Obj) (i : Nat), A.size ≤ i → (A ++ B).modify i f = A ++ B.modify (i - A.size) f := fun f A B i hi => by
    apply Array.ext
    · simp
    · intro j h1 h2
      simp only [Array.getElem_modify, Array.getElem_append]
      split
      · rename_i hij
        subst hij
        rw [dif_neg (by omega), dif_neg (by omega)]; simp
      · rename_i hij
        split
        · rfl
        · simp; omega
  show World.setCell _ p u = _
  unfold World.setCell Sort.grow
  simp only
  congr 1
  exact e _ _ _ _ hp

def fndV (l : List Vl) (k : Int) : Vl := (findV l k).getD (0, 0, 0)
def hasK (l : List Vl) (k : Int) : Bool := (findV l k).isSome


set_option maxHeartbeats 1000000 in
set_option maxRecDepth 100000 in
theorem find_call (l : List Vl) (v : Value) (k : Int) (w : World) (hl : Sl encV w v l) : Calls Tryz.prog 108 #[v, .int .i64 k] w fun e w' => e = .returned (.tuple #[aggV (fndV l k), .bool (hasK l k)]) ∧ Gr w w' := by
  obtain ⟨p, cap, rfl, hl1, hl2, hl3⟩ := hl
  have HL := Lib.hid hl3
  have hbig : l.length ≤ 9223372036854775807 := by unfold maxLen at hl2; omega
  clear hl3 hl2
  obtain ⟨rx, hrx⟩ : ∃ rx, rx = fndV l k := ⟨_, rfl⟩
  obtain ⟨rb, hrb⟩ : ∃ rb, rb = hasK l k := ⟨_, rfl⟩
  rw [← hrx, ← hrb]
  have HX := Lib.hid hrx
  have HB := Lib.hid hrb
  clear hrx hrb
  go_enter Tryz.func108, Tryz.ntmps108
  go_wp2
  go_loopg [10] l.length (fun gk s10 wr => ∃ i : Nat, s10 = .int .i64 i ∧ i ≤ l.length ∧ l.length - i ≤ gk ∧ Gr (w.alloc (.cells #[.int .i64 0, .int .i64 0, .int .i64 0] 34)) wr ∧ Hid (∀ j, j < i → l[j]!.1 ≠ k))
  case atStart => exact ⟨0, rfl, Nat.zero_le _, by omega, Gr.refl _, fun j hj => absurd hj (Nat.not_lt_zero _)⟩
  case round =>
    obtain ⟨i, rfl, hi, hgk, hg, I⟩ := hrel
    have hb := hg.below
    have hlw : w.heap.size < wr.heap.size := Bl hb (by simp)
    have z0 : wr.cell? ⟨w.heap.size, 0, none⟩ = some (.int .i64 0) := Bc hb (by simp) (by simp)
    have z1 : wr.cell? ⟨w.heap.size, 1, none⟩ = some (.int .i64 0) := Bc hb (by simp) (by simp)
    have z2 : wr.cell? ⟨w.heap.size, 2, none⟩ = some (.int .i64 0) := Bc hb (by simp) (by simp)
    have f0 : wr.frozen? ⟨w.heap.size, 0, none⟩ = false := Bf hb (by simp) (by simp)
    have f1 : wr.frozen? ⟨w.heap.size, 1, none⟩ = false := Bf hb (by simp) (by simp)
    have f2 : wr.frozen? ⟨w.heap.size, 2, none⟩ = false := Bf hb (by simp) (by simp)
    have HG := Lib.hid ((((Gr.refl w).alloc _).trans hg : Gr w wr))
    have HG2 := Lib.hid hg
    clear hb
    by_cases hin : i < l.length
    · obtain ⟨g, o, rfl, hg1, hg2⟩ := HL.out (by omega)
      obtain ⟨c1, c2, c3⟩ := atV hg2 hin
      have d1 : wr.cell? ⟨g, o + i * 3, none⟩ = some (.int .i64 l[i]!.1) := Bc HG.out.below hg1 c1
      have d2 : wr.cell? ⟨g, o + i * 3 + 1, none⟩ = some (.int .i64 l[i]!.2.1) := Bc HG.out.below hg1 c2
      have d3 : wr.cell? ⟨g, o + i * 3 + 2, none⟩ = some (.int .i64 l[i]!.2.2) := Bc HG.out.below hg1 c3
      have hgw : g < wr.heap.size := Bl HG.out.below hg1
      have HF := Lib.hid (fun (h : l[i]!.1 = k) => show rx = l[i]! ∧ rb = true from by
        have := find_at hin h (fun j hj => I.out j hj)
        rw [HX.out, HB.out]; unfold fndV hasK; rw [this]; exact ⟨rfl, rfl⟩)
      generalize hx : l[i]! = x at *
      have X := Lib.hid hx
      obtain ⟨x1, x2, x3⟩ := x
      dsimp only at d1 d2 d3
      clear hg2 c1 c2 c3 hx hg
      by_cases hk : x1 = k
      · obtain ⟨ex, eb⟩ := HF.out hk
        subst hk
        have E := Lib.hid (show Value.tuple #[.agg #[.int .i64 x1, .int .i64 x2, .int .i64 x3], .bool true] = .tuple #[aggV rx, .bool rb] by rw [ex, eb]; rfl)
        clear ex eb HF
        go_wp2
        exact bodyPost_ret (v := .tuple #[.agg #[.int .i64 x1, .int .i64 x2, .int .i64 x3], .bool true]) (by simp [results, Tryz.results108, go_sem, *]) rfl ⟨congrArg _ E.out, by repeat (first | exact HG.out | with_reducible apply Gr.alloc | (with_reducible refine Gr.set ?_ (by simp) _))⟩
      · have hne : (x1 == k) = false := beq_eq_false_iff_ne.2 hk
        have HK := Lib.hid hk
        clear hk HF
        go_wp2
        go_roundg (l.length - (i + 1))
        case measure => omega
        case rel =>
          refine ⟨i + 1, by go_num, by omega, Nat.le_refl _, HG2.out.alloc _, (show Hid _ from fun j hj => ?_)⟩
          by_cases e : j = i
          · subst e; rw [X.out]; exact HK.out
          · exact I.out j (by omega)
    · have e0 : findV l k = none := find_no fun j hj => I.out j (by omega)
      have ex : rx = (0, 0, 0) := by rw [HX.out]; unfold fndV; rw [e0]; rfl
      have eb : rb = false := by rw [HB.out]; unfold hasK; rw [e0]; rfl
      have E := Lib.hid (show Value.tuple #[.agg #[.int .i64 0, .int .i64 0, .int .i64 0], .bool false] = .tuple #[aggV rx, .bool rb] by rw [ex, eb]; rfl)
      clear ex eb e0 hg
      go_wp2
      exact bodyPost_ret (v := .tuple #[.agg #[.int .i64 0, .int .i64 0, .int .i64 0], .bool false]) (by simp [results, Tryz.results108, go_sem, *]) rfl ⟨congrArg _ E.out, by repeat (first | exact HG.out | with_reducible apply Gr.alloc | (with_reducible refine Gr.set ?_ (by simp) _))⟩

set_option maxHeartbeats 1000000 in
set_option maxRecDepth 100000 in
theorem rfind_call (l : List Vl) (v : Value) (k : Int) (w : World) (hl : Sl encV w v l) : Calls Tryz.prog 58 #[v, .int .i64 k] w fun e w' => e = .returned (.tuple #[aggV (fndV l k), .bool (hasK l k)]) ∧ Gr w w' := by
  obtain ⟨p, cap, rfl, hl1, hl2, hl3⟩ := hl
  have HL := Lib.hid hl3
  have hbig : l.length ≤ 9223372036854775807 := by unfold maxLen at hl2; omega
  clear hl3 hl2
  obtain ⟨rx, hrx⟩ : ∃ rx, rx = fndV l k := ⟨_, rfl⟩
  obtain ⟨rb, hrb⟩ : ∃ rb, rb = hasK l k := ⟨_, rfl⟩
  rw [← hrx, ← hrb]
  have HX := Lib.hid hrx
  have HB := Lib.hid hrb
  clear hrx hrb
  go_enter Tryz.func58, Tryz.ntmps58
  go_wp2
  go_loopg [10] l.length (fun gk s10 wr => ∃ i : Nat, s10 = .int .i64 i ∧ i ≤ l.length ∧ l.length - i ≤ gk ∧ Gr (w.alloc (.cells #[.int .i64 0, .int .i64 0, .int .i64 0] 34)) wr ∧ Hid (∀ j, j < i → l[j]!.1 ≠ k))
  case atStart => exact ⟨0, rfl, Nat.zero_le _, by omega, Gr.refl _, fun j hj => absurd hj (Nat.not_lt_zero _)⟩
  case round =>
    obtain ⟨i, rfl, hi, hgk, hg, I⟩ := hrel
    have hb := hg.below
    have hlw : w.heap.size < wr.heap.size := Bl hb (by simp)
    have z0 : wr.cell? ⟨w.heap.size, 0, none⟩ = some (.int .i64 0) := Bc hb (by simp) (by simp)
    have z1 : wr.cell? ⟨w.heap.size, 1, none⟩ = some (.int .i64 0) := Bc hb (by simp) (by simp)
    have z2 : wr.cell? ⟨w.heap.size, 2, none⟩ = some (.int .i64 0) := Bc hb (by simp) (by simp)
    have f0 : wr.frozen? ⟨w.heap.size, 0, none⟩ = false := Bf hb (by simp) (by simp)
    have f1 : wr.frozen? ⟨w.heap.size, 1, none⟩ = false := Bf hb (by simp) (by simp)
    have f2 : wr.frozen? ⟨w.heap.size, 2, none⟩ = false := Bf hb (by simp) (by simp)
    have HG := Lib.hid ((((Gr.refl w).alloc _).trans hg : Gr w wr))
    have HG2 := Lib.hid hg
    clear hb
    by_cases hin : i < l.length
    · obtain ⟨g, o, rfl, hg1, hg2⟩ := HL.out (by omega)
      obtain ⟨c1, c2, c3⟩ := atV hg2 hin
      have d1 : wr.cell? ⟨g, o + i * 3, none⟩ = some (.int .i64 l[i]!.1) := Bc HG.out.below hg1 c1
      have d2 : wr.cell? ⟨g, o + i * 3 + 1, none⟩ = some (.int .i64 l[i]!.2.1) := Bc HG.out.below hg1 c2
      have d3 : wr.cell? ⟨g, o + i * 3 + 2, none⟩ = some (.int .i64 l[i]!.2.2) := Bc HG.out.below hg1 c3
      have hgw : g < wr.heap.size := Bl HG.out.below hg1
      have HF := Lib.hid (fun (h : l[i]!.1 = k) => show rx = l[i]! ∧ rb = true from by
        have := find_at hin h (fun j hj => I.out j hj)
        rw [HX.out, HB.out]; unfold fndV hasK; rw [this]; exact ⟨rfl, rfl⟩)
      generalize hx : l[i]! = x at *
      have X := Lib.hid hx
      obtain ⟨x1, x2, x3⟩ := x
      dsimp only at d1 d2 d3
      clear hg2 c1 c2 c3 hx hg
      by_cases hk : x1 = k
      · obtain ⟨ex, eb⟩ := HF.out hk
        subst hk
        have E := Lib.hid (show Value.tuple #[.agg #[.int .i64 x1, .int .i64 x2, .int .i64 x3], .bool true] = .tuple #[aggV rx, .bool rb] by rw [ex, eb]; rfl)
        clear ex eb HF
        go_wp2
        exact bodyPost_ret (v := .tuple #[.agg #[.int .i64 x1, .int .i64 x2, .int .i64 x3], .bool true]) (by simp [results, Tryz.results58, go_sem, *]) rfl ⟨congrArg _ E.out, by repeat (first | exact HG.out | with_reducible apply Gr.alloc | (with_reducible refine Gr.set ?_ (by simp) _))⟩
      · have hne : (x1 == k) = false := beq_eq_false_iff_ne.2 hk
        have HK := Lib.hid hk
        clear hk HF
        go_wp2
        go_roundg (l.length - (i + 1))
        case measure => omega
        case rel =>
          refine ⟨i + 1, by go_num, by omega, Nat.le_refl _, HG2.out.alloc _, (show Hid _ from fun j hj => ?_)⟩
          by_cases e : j = i
          · subst e; rw [X.out]; exact HK.out
          · exact I.out j (by omega)
    · have e0 : findV l k = none := find_no fun j hj => I.out j (by omega)
      have ex : rx = (0, 0, 0) := by rw [HX.out]; unfold fndV; rw [e0]; rfl
      have eb : rb = false := by rw [HB.out]; unfold hasK; rw [e0]; rfl
      have E := Lib.hid (show Value.tuple #[.agg #[.int .i64 0, .int .i64 0, .int .i64 0], .bool false] = .tuple #[aggV rx, .bool rb] by rw [ex, eb]; rfl)
      clear ex eb e0 hg
      go_wp2
      exact bodyPost_ret (v := .tuple #[.agg #[.int .i64 0, .int .i64 0, .int .i64 0], .bool false]) (by simp [results, Tryz.results58, go_sem, *]) rfl ⟨congrArg _ E.out, by repeat (first | exact HG.out | with_reducible apply Gr.alloc | (with_reducible refine Gr.set ?_ (by simp) _))⟩
end Go.Proofs.YtaehendpdfpibaaGreatDoor
