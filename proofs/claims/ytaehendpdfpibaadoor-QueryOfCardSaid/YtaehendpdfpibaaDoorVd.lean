/-
  The reference's Check (written by mkvd.py).
-/
import Derived.Test.YtaehendpdfpibaaDoorVc
namespace Go.Proofs.YtaehendpdfpibaaDoor
set_option linter.unusedSimpArgs false
set_option linter.unusedVariables false
open Go.RowKit Go.Sort Go.Lib Go.Shelf

theorem inV_zero (n : Int) : inV n (0, 0) = decide (n = 0) := by
  unfold inV
  rw [Bool.eq_iff_iff]
  simp
  omega
theorem in_it (n lo hi : Int) (w : World) (q : Bool) (h : inV n (lo, hi) = q) : Calls Tryd.prog 33 #[.int .i64 n, .int .i64 lo, .int .i64 hi] w fun e w' => e = .returned (.bool q) ∧ w = w' := by
  rw [← h]
  exact in_any n lo hi w

set_option maxHeartbeats 1000000 in
set_option maxRecDepth 100000 in
theorem rcheck_0 (a b : Int) (w : World) : Calls Tryd.prog 29 #[aggV (0, a, b)] w fun e w' => e = .returned (.int .i64 (chk (0, a, b) : Nat)) ∧ Gr w w' := by
  unfold aggV
  dsimp only
  rw [show chk (0, a, b) = if inV a ((-1048576), 1048576) && inV b ((-1048576), 1048576) then 0 else 1 from by simp [chk, kindB, rngV]]
  cases ha : inV a ((-1048576), 1048576) <;> cases hb : inV b ((-1048576), 1048576)
  all_goals
    go_enter Tryd.func29, Tryd.ntmps29
    go_wp2_with (first | (go_at_call 33; refine (in_it _ _ _ _ _ (by assumption)).mono ?_; rintro e w1 ⟨rfl, rfl⟩))
    go_ret
    exact ⟨rfl, (by repeat (first | with_reducible exact Gr.refl _ | with_reducible assumption | with_reducible apply Gr.alloc | with_reducible apply Gr.drewN | with_reducible apply Gr.drew | with_reducible apply Gr.grow | (with_reducible refine Gr.trans ?_ (by assumption))))⟩

set_option maxHeartbeats 1000000 in
set_option maxRecDepth 100000 in
theorem rcheck_1 (a b : Int) (w : World) : Calls Tryd.prog 29 #[aggV (1, a, b)] w fun e w' => e = .returned (.int .i64 (chk (1, a, b) : Nat)) ∧ Gr w w' := by
  unfold aggV
  dsimp only
  rw [show chk (1, a, b) = if inV a (0, 1048576) && inV b (0, 1048576) then 0 else 1 from by simp [chk, kindB, rngV]]
  cases ha : inV a (0, 1048576) <;> cases hb : inV b (0, 1048576)
  all_goals
    go_enter Tryd.func29, Tryd.ntmps29
    go_wp2_with (first | (go_at_call 33; refine (in_it _ _ _ _ _ (by assumption)).mono ?_; rintro e w1 ⟨rfl, rfl⟩))
    go_ret
    exact ⟨rfl, (by repeat (first | with_reducible exact Gr.refl _ | with_reducible assumption | with_reducible apply Gr.alloc | with_reducible apply Gr.drewN | with_reducible apply Gr.drew | with_reducible apply Gr.grow | (with_reducible refine Gr.trans ?_ (by assumption))))⟩

set_option maxHeartbeats 1000000 in
set_option maxRecDepth 100000 in
theorem rcheck_2 (a b : Int) (w : World) : Calls Tryd.prog 29 #[aggV (2, a, b)] w fun e w' => e = .returned (.int .i64 (chk (2, a, b) : Nat)) ∧ Gr w w' := by
  unfold aggV
  dsimp only
  rw [show chk (2, a, b) = if inV a ((-1048576), 1048576) && inV b ((-1048576), 1048576) then 0 else 1 from by simp [chk, kindB, rngV]]
  cases ha : inV a ((-1048576), 1048576) <;> cases hb : inV b ((-1048576), 1048576)
  all_goals
    go_enter Tryd.func29, Tryd.ntmps29
    go_wp2_with (first | (go_at_call 33; refine (in_it _ _ _ _ _ (by assumption)).mono ?_; rintro e w1 ⟨rfl, rfl⟩))
    go_ret
    exact ⟨rfl, (by repeat (first | with_reducible exact Gr.refl _ | with_reducible assumption | with_reducible apply Gr.alloc | with_reducible apply Gr.drewN | with_reducible apply Gr.drew | with_reducible apply Gr.grow | (with_reducible refine Gr.trans ?_ (by assumption))))⟩

set_option maxHeartbeats 1000000 in
set_option maxRecDepth 100000 in
theorem rcheck_3 (a b : Int) (w : World) : Calls Tryd.prog 29 #[aggV (3, a, b)] w fun e w' => e = .returned (.int .i64 (chk (3, a, b) : Nat)) ∧ Gr w w' := by
  unfold aggV
  dsimp only
  rw [show chk (3, a, b) = if inV a (0, 0) && inV b (0, 0) then 0 else 1 from by simp [chk, kindB, rngV]]
  rw [inV_zero a, inV_zero b]
  by_cases ha : a = 0 <;> by_cases hb : b = 0
  · subst ha; subst hb
    go_enter Tryd.func29, Tryd.ntmps29
    go_wp2_with (first | (go_at_call 33; refine (in_it _ _ _ _ _ (by assumption)).mono ?_; rintro e w1 ⟨rfl, rfl⟩))
    go_ret
    exact ⟨rfl, (by repeat (first | with_reducible exact Gr.refl _ | with_reducible assumption | with_reducible apply Gr.alloc | with_reducible apply Gr.drewN | with_reducible apply Gr.drew | with_reducible apply Gr.grow | (with_reducible refine Gr.trans ?_ (by assumption))))⟩
  · subst ha; rw [decide_eq_false hb]
    have hbb : (b == 0) = false := beq_eq_false_iff_ne.2 hb
    go_enter Tryd.func29, Tryd.ntmps29
    go_wp2_with (first | (go_at_call 33; refine (in_it _ _ _ _ _ (by assumption)).mono ?_; rintro e w1 ⟨rfl, rfl⟩))
    go_ret
    exact ⟨rfl, (by repeat (first | with_reducible exact Gr.refl _ | with_reducible assumption | with_reducible apply Gr.alloc | with_reducible apply Gr.drewN | with_reducible apply Gr.drew | with_reducible apply Gr.grow | (with_reducible refine Gr.trans ?_ (by assumption))))⟩
  · subst hb; rw [decide_eq_false ha]
    have haa : (a == 0) = false := beq_eq_false_iff_ne.2 ha
    go_enter Tryd.func29, Tryd.ntmps29
    go_wp2_with (first | (go_at_call 33; refine (in_it _ _ _ _ _ (by assumption)).mono ?_; rintro e w1 ⟨rfl, rfl⟩))
    go_ret
    exact ⟨rfl, (by repeat (first | with_reducible exact Gr.refl _ | with_reducible assumption | with_reducible apply Gr.alloc | with_reducible apply Gr.drewN | with_reducible apply Gr.drew | with_reducible apply Gr.grow | (with_reducible refine Gr.trans ?_ (by assumption))))⟩
  · rw [decide_eq_false ha, decide_eq_false hb]
    have haa : (a == 0) = false := beq_eq_false_iff_ne.2 ha
    go_enter Tryd.func29, Tryd.ntmps29
    go_wp2_with (first | (go_at_call 33; refine (in_it _ _ _ _ _ (by assumption)).mono ?_; rintro e w1 ⟨rfl, rfl⟩))
    go_ret
    exact ⟨rfl, (by repeat (first | with_reducible exact Gr.refl _ | with_reducible assumption | with_reducible apply Gr.alloc | with_reducible apply Gr.drewN | with_reducible apply Gr.drew | with_reducible apply Gr.grow | (with_reducible refine Gr.trans ?_ (by assumption))))⟩

set_option maxHeartbeats 1000000 in
set_option maxRecDepth 100000 in
theorem rcheck_4 (a b : Int) (w : World) : Calls Tryd.prog 29 #[aggV (4, a, b)] w fun e w' => e = .returned (.int .i64 (chk (4, a, b) : Nat)) ∧ Gr w w' := by
  unfold aggV
  dsimp only
  rw [show chk (4, a, b) = if inV a (0, 255) && inV b (0, 0) then 0 else 1 from by simp [chk, kindB, rngV]]
  rw [inV_zero b]
  cases ha : inV a (0, 255) <;> by_cases hb : b = 0
  · subst hb
    go_enter Tryd.func29, Tryd.ntmps29
    go_wp2_with (first | (go_at_call 33; refine (in_it _ _ _ _ _ (by assumption)).mono ?_; rintro e w1 ⟨rfl, rfl⟩))
    go_ret
    exact ⟨rfl, (by repeat (first | with_reducible exact Gr.refl _ | with_reducible assumption | with_reducible apply Gr.alloc | with_reducible apply Gr.drewN | with_reducible apply Gr.drew | with_reducible apply Gr.grow | (with_reducible refine Gr.trans ?_ (by assumption))))⟩
  · rw [decide_eq_false hb]
    have hbb : (b == 0) = false := beq_eq_false_iff_ne.2 hb
    go_enter Tryd.func29, Tryd.ntmps29
    go_wp2_with (first | (go_at_call 33; refine (in_it _ _ _ _ _ (by assumption)).mono ?_; rintro e w1 ⟨rfl, rfl⟩))
    go_ret
    exact ⟨rfl, (by repeat (first | with_reducible exact Gr.refl _ | with_reducible assumption | with_reducible apply Gr.alloc | with_reducible apply Gr.drewN | with_reducible apply Gr.drew | with_reducible apply Gr.grow | (with_reducible refine Gr.trans ?_ (by assumption))))⟩
  · subst hb
    go_enter Tryd.func29, Tryd.ntmps29
    go_wp2_with (first | (go_at_call 33; refine (in_it _ _ _ _ _ (by assumption)).mono ?_; rintro e w1 ⟨rfl, rfl⟩))
    go_ret
    exact ⟨rfl, (by repeat (first | with_reducible exact Gr.refl _ | with_reducible assumption | with_reducible apply Gr.alloc | with_reducible apply Gr.drewN | with_reducible apply Gr.drew | with_reducible apply Gr.grow | (with_reducible refine Gr.trans ?_ (by assumption))))⟩
  · rw [decide_eq_false hb]
    have hbb : (b == 0) = false := beq_eq_false_iff_ne.2 hb
    go_enter Tryd.func29, Tryd.ntmps29
    go_wp2_with (first | (go_at_call 33; refine (in_it _ _ _ _ _ (by assumption)).mono ?_; rintro e w1 ⟨rfl, rfl⟩))
    go_ret
    exact ⟨rfl, (by repeat (first | with_reducible exact Gr.refl _ | with_reducible assumption | with_reducible apply Gr.alloc | with_reducible apply Gr.drewN | with_reducible apply Gr.drew | with_reducible apply Gr.grow | (with_reducible refine Gr.trans ?_ (by assumption))))⟩

set_option maxHeartbeats 1000000 in
set_option maxRecDepth 100000 in
theorem rcheck_5 (a b : Int) (w : World) : Calls Tryd.prog 29 #[aggV (5, a, b)] w fun e w' => e = .returned (.int .i64 (chk (5, a, b) : Nat)) ∧ Gr w w' := by
  unfold aggV
  dsimp only
  rw [show chk (5, a, b) = if inV a (0, 1048576) && inV b (0, 0) then 0 else 1 from by simp [chk, kindB, rngV]]
  rw [inV_zero b]
  cases ha : inV a (0, 1048576) <;> by_cases hb : b = 0
  · subst hb
    go_enter Tryd.func29, Tryd.ntmps29
    go_wp2_with (first | (go_at_call 33; refine (in_it _ _ _ _ _ (by assumption)).mono ?_; rintro e w1 ⟨rfl, rfl⟩))
    go_ret
    exact ⟨rfl, (by repeat (first | with_reducible exact Gr.refl _ | with_reducible assumption | with_reducible apply Gr.alloc | with_reducible apply Gr.drewN | with_reducible apply Gr.drew | with_reducible apply Gr.grow | (with_reducible refine Gr.trans ?_ (by assumption))))⟩
  · rw [decide_eq_false hb]
    have hbb : (b == 0) = false := beq_eq_false_iff_ne.2 hb
    go_enter Tryd.func29, Tryd.ntmps29
    go_wp2_with (first | (go_at_call 33; refine (in_it _ _ _ _ _ (by assumption)).mono ?_; rintro e w1 ⟨rfl, rfl⟩))
    go_ret
    exact ⟨rfl, (by repeat (first | with_reducible exact Gr.refl _ | with_reducible assumption | with_reducible apply Gr.alloc | with_reducible apply Gr.drewN | with_reducible apply Gr.drew | with_reducible apply Gr.grow | (with_reducible refine Gr.trans ?_ (by assumption))))⟩
  · subst hb
    go_enter Tryd.func29, Tryd.ntmps29
    go_wp2_with (first | (go_at_call 33; refine (in_it _ _ _ _ _ (by assumption)).mono ?_; rintro e w1 ⟨rfl, rfl⟩))
    go_ret
    exact ⟨rfl, (by repeat (first | with_reducible exact Gr.refl _ | with_reducible assumption | with_reducible apply Gr.alloc | with_reducible apply Gr.drewN | with_reducible apply Gr.drew | with_reducible apply Gr.grow | (with_reducible refine Gr.trans ?_ (by assumption))))⟩
  · rw [decide_eq_false hb]
    have hbb : (b == 0) = false := beq_eq_false_iff_ne.2 hb
    go_enter Tryd.func29, Tryd.ntmps29
    go_wp2_with (first | (go_at_call 33; refine (in_it _ _ _ _ _ (by assumption)).mono ?_; rintro e w1 ⟨rfl, rfl⟩))
    go_ret
    exact ⟨rfl, (by repeat (first | with_reducible exact Gr.refl _ | with_reducible assumption | with_reducible apply Gr.alloc | with_reducible apply Gr.drewN | with_reducible apply Gr.drew | with_reducible apply Gr.grow | (with_reducible refine Gr.trans ?_ (by assumption))))⟩

set_option maxHeartbeats 1000000 in
set_option maxRecDepth 100000 in
theorem rcheck_6 (a b : Int) (w : World) : Calls Tryd.prog 29 #[aggV (6, a, b)] w fun e w' => e = .returned (.int .i64 (chk (6, a, b) : Nat)) ∧ Gr w w' := by
  unfold aggV
  dsimp only
  rw [show chk (6, a, b) = if inV a ((-4194304), 4194304) && inV b ((-4194304), 4194304) then 0 else 1 from by simp [chk, kindB, rngV]]
  cases ha : inV a ((-4194304), 4194304) <;> cases hb : inV b ((-4194304), 4194304)
  all_goals
    go_enter Tryd.func29, Tryd.ntmps29
    go_wp2_with (first | (go_at_call 33; refine (in_it _ _ _ _ _ (by assumption)).mono ?_; rintro e w1 ⟨rfl, rfl⟩))
    go_ret
    exact ⟨rfl, (by repeat (first | with_reducible exact Gr.refl _ | with_reducible assumption | with_reducible apply Gr.alloc | with_reducible apply Gr.drewN | with_reducible apply Gr.drew | with_reducible apply Gr.grow | (with_reducible refine Gr.trans ?_ (by assumption))))⟩

set_option maxHeartbeats 1000000 in
set_option maxRecDepth 100000 in
theorem rcheck_7 (a b : Int) (w : World) : Calls Tryd.prog 29 #[aggV (7, a, b)] w fun e w' => e = .returned (.int .i64 (chk (7, a, b) : Nat)) ∧ Gr w w' := by
  unfold aggV
  dsimp only
  rw [show chk (7, a, b) = if inV a ((-4194304), 4194304) && inV b ((-4194304), 4194304) then 0 else 1 from by simp [chk, kindB, rngV]]
  cases ha : inV a ((-4194304), 4194304) <;> cases hb : inV b ((-4194304), 4194304)
  all_goals
    go_enter Tryd.func29, Tryd.ntmps29
    go_wp2_with (first | (go_at_call 33; refine (in_it _ _ _ _ _ (by assumption)).mono ?_; rintro e w1 ⟨rfl, rfl⟩))
    go_ret
    exact ⟨rfl, (by repeat (first | with_reducible exact Gr.refl _ | with_reducible assumption | with_reducible apply Gr.alloc | with_reducible apply Gr.drewN | with_reducible apply Gr.drew | with_reducible apply Gr.grow | (with_reducible refine Gr.trans ?_ (by assumption))))⟩

set_option maxHeartbeats 1000000 in
set_option maxRecDepth 100000 in
theorem rcheck_8 (a b : Int) (w : World) : Calls Tryd.prog 29 #[aggV (8, a, b)] w fun e w' => e = .returned (.int .i64 (chk (8, a, b) : Nat)) ∧ Gr w w' := by
  unfold aggV
  dsimp only
  rw [show chk (8, a, b) = if inV a ((-4194304), 4194304) && inV b ((-4194304), 4194304) then 0 else 1 from by simp [chk, kindB, rngV]]
  cases ha : inV a ((-4194304), 4194304) <;> cases hb : inV b ((-4194304), 4194304)
  all_goals
    go_enter Tryd.func29, Tryd.ntmps29
    go_wp2_with (first | (go_at_call 33; refine (in_it _ _ _ _ _ (by assumption)).mono ?_; rintro e w1 ⟨rfl, rfl⟩))
    go_ret
    exact ⟨rfl, (by repeat (first | with_reducible exact Gr.refl _ | with_reducible assumption | with_reducible apply Gr.alloc | with_reducible apply Gr.drewN | with_reducible apply Gr.drew | with_reducible apply Gr.grow | (with_reducible refine Gr.trans ?_ (by assumption))))⟩

set_option maxHeartbeats 1000000 in
set_option maxRecDepth 100000 in
theorem rcheck_9 (a b : Int) (w : World) : Calls Tryd.prog 29 #[aggV (9, a, b)] w fun e w' => e = .returned (.int .i64 (chk (9, a, b) : Nat)) ∧ Gr w w' := by
  unfold aggV
  dsimp only
  rw [show chk (9, a, b) = if inV a ((-4194304), 4194304) && inV b ((-4194304), 4194304) then 0 else 1 from by simp [chk, kindB, rngV]]
  cases ha : inV a ((-4194304), 4194304) <;> cases hb : inV b ((-4194304), 4194304)
  all_goals
    go_enter Tryd.func29, Tryd.ntmps29
    go_wp2_with (first | (go_at_call 33; refine (in_it _ _ _ _ _ (by assumption)).mono ?_; rintro e w1 ⟨rfl, rfl⟩))
    go_ret
    exact ⟨rfl, (by repeat (first | with_reducible exact Gr.refl _ | with_reducible assumption | with_reducible apply Gr.alloc | with_reducible apply Gr.drewN | with_reducible apply Gr.drew | with_reducible apply Gr.grow | (with_reducible refine Gr.trans ?_ (by assumption))))⟩

set_option maxHeartbeats 1000000 in
set_option maxRecDepth 100000 in
theorem rcheck_no (k a b : Int) (hk : kindB k = false) (w : World) : Calls Tryd.prog 29 #[aggV (k, a, b)] w fun e w' => e = .returned (.int .i64 (chk (k, a, b) : Nat)) ∧ Gr w w' := by
  unfold aggV
  dsimp only
  rw [show chk (k, a, b) = 5 from by simp [chk, hk]]
  have h : ¬ (0 ≤ k ∧ k < 10) := fun h => by rw [(kindB_iff k).2 h] at hk; cases hk
  have n0 : ¬ k = 0 := by omega
  have n1 : ¬ k = 1 := by omega
  have n2 : ¬ k = 2 := by omega
  have n3 : ¬ k = 3 := by omega
  have n4 : ¬ k = 4 := by omega
  have n5 : ¬ k = 5 := by omega
  have n6 : ¬ k = 6 := by omega
  have n7 : ¬ k = 7 := by omega
  have n8 : ¬ k = 8 := by omega
  have n9 : ¬ k = 9 := by omega
  clear h hk
  go_enter Tryd.func29, Tryd.ntmps29
  go_wp2
  go_ret
  exact ⟨rfl, (by repeat (first | with_reducible exact Gr.refl _ | with_reducible assumption | with_reducible apply Gr.alloc | with_reducible apply Gr.drewN | with_reducible apply Gr.drew | with_reducible apply Gr.grow | (with_reducible refine Gr.trans ?_ (by assumption))))⟩

theorem rcheck_any (x : Vl) (w : World) : Calls Tryd.prog 29 #[aggV x] w fun e w' => e = .returned (.int .i64 (chk x : Nat)) ∧ Gr w w' := by
  obtain ⟨k, a, b⟩ := x
  cases hk : kindB k
  · exact rcheck_no k a b hk w
  · have h := (kindB_iff k).1 hk
    have h2 : k = 0 ∨ k = 1 ∨ k = 2 ∨ k = 3 ∨ k = 4 ∨ k = 5 ∨ k = 6 ∨ k = 7 ∨ k = 8 ∨ k = 9 := by omega
    rcases h2 with rfl | rfl | rfl | rfl | rfl | rfl | rfl | rfl | rfl | rfl
    · exact rcheck_0 a b w
    · exact rcheck_1 a b w
    · exact rcheck_2 a b w
    · exact rcheck_3 a b w
    · exact rcheck_4 a b w
    · exact rcheck_5 a b w
    · exact rcheck_6 a b w
    · exact rcheck_7 a b w
    · exact rcheck_8 a b w
    · exact rcheck_9 a b w
end Go.Proofs.YtaehendpdfpibaaDoor
