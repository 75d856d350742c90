import Derived.Test.YtahichjiphjapaaGreatDoorZ28
import Derived.Test.YtahichjiphjapaaGreatDoorZ1
import Derived.Test.YtahichjiphjapaaGreatDoorZ10

/-
  Package plane: Dist2 and Gap2 (of stage 1, over Pw11).
-/
namespace Go.Proofs.YtahichjiphjapaaGreatDoor
set_option linter.unusedSimpArgs false
set_option linter.unusedVariables false
open Go.RowKit Go.Sort Go.Lib Go.Shelf

theorem sq_bd {d : Int} (h1 : -8388608 ≤ d) (h2 : d ≤ 8388608) : 0 ≤ d * d ∧ d * d ≤ 70368744177664 := by
  refine ⟨sq_nn d, ?_⟩
  rcases Int.le_total 0 d with h | h
  · have := sq_le h h2
    simpa using this
  · have := sq_le (show 0 ≤ -d by omega) (show -d ≤ 8388608 by omega)
    rw [Int.neg_mul_neg] at this
    omega
theorem reach_bd {x y : Int} (h : reachB x y = true) : (-4194304 ≤ x ∧ x ≤ 4194304) ∧ (-4194304 ≤ y ∧ y ≤ 4194304) := by
  simp [reachB, bothB, btw] at h
  omega
theorem ret_intnil {a b : Int} (h : a = b) : Ending.returned (.tuple #[.int .i64 a, .nilIface]) = Ending.returned (.tuple #[.int .i64 b, .nilIface]) := by rw [h]
set_option maxHeartbeats 1000000 in
theorem dist_yes (x y u v : Int) (w : World) (h1 : reachB x y = true) (h2 : reachB u v = true) :
    Calls Tryz.prog 89 #[.agg #[.int .i64 x, .int .i64 y], .agg #[.int .i64 u, .int .i64 v]] w fun e w' => e = .returned (.tuple #[.int .i64 (sqI (x, y) (u, v)), .nilIface]) ∧ Below w.heap.size w w' := by
  obtain ⟨⟨a1, a2⟩, a3, a4⟩ := reach_bd h1
  obtain ⟨⟨b1, b2⟩, b3, b4⟩ := reach_bd h2
  obtain ⟨c1, c2⟩ := sq_bd (d := x - u) (by omega) (by omega)
  obtain ⟨c3, c4⟩ := sq_bd (d := y - v) (by omega) (by omega)
  unfold sqI
  dsimp only
  go_enter Tryz.func89, Tryz.ntmps89
  go_wp2_with (first
    | (go_at_call_of 101 (Value.agg #[.int .i64 x, .int .i64 y]); refine (bool_is h1 (reach_any _ _ _)).mono ?_; rintro e w1 ⟨rfl, hb1⟩; obtain ⟨hc1, hf1⟩ := bcell hb1; have hz0 : w.heap.size < w1.heap.size := Bl hb1 (by first | assumption | (simp; done) | (simp; omega)); have hz1 : w.heap.size + 1 < w1.heap.size := Bl hb1 (by first | assumption | (simp; done) | (simp; omega)))
    | (go_at_call_of 101 (Value.agg #[.int .i64 u, .int .i64 v]); refine (bool_is h2 (reach_any _ _ _)).mono ?_; rintro e w1 ⟨rfl, hb1⟩; obtain ⟨hc1, hf1⟩ := bcell hb1; have hz0 : w.heap.size < w1.heap.size := Bl hb1 (by first | assumption | (simp; done) | (simp; omega)); have hz1 : w.heap.size + 1 < w1.heap.size := Bl hb1 (by first | assumption | (simp; done) | (simp; omega))))
  go_quiet (fail)
  go_wp2
  go_ret2
  exact ⟨ret_intnil rfl, (by repeat (first | with_reducible exact Below.refl _ _ | with_reducible assumption | with_reducible apply Ba | with_reducible apply Bd | with_reducible apply Bn | with_reducible apply Bg | (with_reducible refine Bs ?_ (by first | (simp; done) | (simp; omega)) _) | (with_reducible refine Bt ?_ (by assumption)) | (with_reducible refine Bt ?_ (Gr.below (by assumption)))))⟩
theorem nearest_any (n lo hi : Int) (w : World) (h : lo ≤ hi) : Calls Tryz.prog 102 #[.int .i64 n, .int .i64 lo, .int .i64 hi] w fun e w' => e = .returned (.int .i64 (nearK n lo hi)) ∧ w = w' := by
  by_cases h1 : n < lo
  · have H : Hid (nearK n lo hi = lo) := by simp [Hid, nearK, h1]
    have h2 : ¬ hi < lo := by omega
    go_enter Tryz.func102, Tryz.ntmps102
    go_wp2
    go_ret
    exact ⟨ret_int (by rw [H.out]; omega), rfl⟩
  · by_cases h2 : hi < n
    · have H : Hid (nearK n lo hi = hi) := by simp [Hid, nearK, h1, h2]
      go_enter Tryz.func102, Tryz.ntmps102
      go_wp2
      go_ret
      exact ⟨ret_int (by rw [H.out]; omega), rfl⟩
    · have H : Hid (nearK n lo hi = n) := by simp [Hid, nearK, h1, h2]
      go_enter Tryz.func102, Tryz.ntmps102
      go_wp2
      go_ret
      exact ⟨ret_int (by rw [H.out]; omega), rfl⟩
theorem nearest_bd {n lo hi : Int} (h1 : -4194304 ≤ lo) (h2 : hi ≤ 4194304) (h : lo ≤ hi) : -4194304 ≤ nearK n lo hi ∧ nearK n lo hi ≤ 4194304 := by
  unfold nearK
  split
  · omega
  split <;> omega
set_option maxHeartbeats 2000000 in
theorem gap_yes (x y a b c d : Int) (w : World) (h1 : reachB x y = true) (h2 : rightB a b c d = true) :
    Calls Tryz.prog 88 #[.agg #[.int .i64 x, .int .i64 y], .agg #[.int .i64 a, .int .i64 b, .int .i64 c, .int .i64 d]] w fun e w' => e = .returned (.tuple #[.int .i64 (gapI (x, y) (a, b, c, d)), .nilIface]) ∧ Below w.heap.size w w' := by
  obtain ⟨⟨k1, k2⟩, ⟨k3, k4⟩, ⟨k5, k6⟩, ⟨k7, k8⟩, hac, hbd⟩ := right_bd h2
  obtain ⟨n1, n2⟩ := nearest_bd (n := x) k1 k6 hac
  obtain ⟨n3, n4⟩ := nearest_bd (n := y) k3 k8 hbd
  have h3 : reachB (nearK x a c) (nearK y b d) = true := by
    simp [reachB, bothB, btw]
    omega
  have h3' := Lib.hid h3
  unfold gapI
  dsimp only
  clear h3 n1 n2 n3 n4 k1 k2 k3 k4 k5 k6 k7 k8
  go_enter Tryz.func88, Tryz.ntmps88
  go_wp2_with (first
    | (go_at_call 101; refine (bool_is h1 (reach_any _ _ _)).mono ?_; rintro e w1 ⟨rfl, hb1⟩; obtain ⟨hc1, hf1⟩ := bcell hb1; have hz0 : w.heap.size < w1.heap.size := Bl hb1 (by first | assumption | (simp; done) | (simp; omega)); have hz1 : w.heap.size + 1 < w1.heap.size := Bl hb1 (by first | assumption | (simp; done) | (simp; omega)))
    | (go_at_call 81; refine (bool_is h2 (right_any _ _ _ _ _)).mono ?_; rintro e w1 ⟨rfl, hb1⟩; obtain ⟨hc1, hf1⟩ := bcell hb1; have hz0 : w.heap.size < w1.heap.size := Bl hb1 (by first | assumption | (simp; done) | (simp; omega)); have hz1 : w.heap.size + 1 < w1.heap.size := Bl hb1 (by first | assumption | (simp; done) | (simp; omega))))
  have hT : Below w.heap.size w w1 := (by repeat (first | with_reducible exact Below.refl _ _ | with_reducible assumption | with_reducible apply Ba | with_reducible apply Bd | with_reducible apply Bn | with_reducible apply Bg | (with_reducible refine Bs ?_ (by first | (simp; done) | (simp; omega)) _) | (with_reducible refine Bt ?_ (by assumption)) | (with_reducible refine Bt ?_ (Gr.below (by assumption)))))
  go_region_held3 (fun w' => Below (w1).heap.size (w1) w' ∧ ∀ b_1 o, b_1 < (w1).heap.size → w'.cell? ⟨b_1, o, none⟩ = (w1).cell? ⟨b_1, o, none⟩) (first | exact keep0 _ | exact keepB (by assumption) hb1 | assumption)
    (first
      | (go_at_call_of 102 (Value.int .i64 a); refine (nearest_any _ _ _ _ hac).mono ?_; rintro e w1 ⟨rfl, rfl⟩)
      | (go_at_call_of 102 (Value.int .i64 b); refine (nearest_any _ _ _ _ hbd).mono ?_; rintro e w1 ⟨rfl, rfl⟩)
      | (go_at_call 89; refine (dist_yes _ _ _ _ _ h1 h3'.out).mono ?_; rintro e w1 ⟨rfl, hb1⟩))
  go_wp2
  go_ret2
  exact ⟨ret_intnil rfl, (by repeat (first | with_reducible exact Below.refl _ _ | with_reducible assumption | with_reducible apply Ba | with_reducible apply Bd | with_reducible apply Bn | with_reducible apply Bg | (with_reducible refine Bs ?_ (by first | (simp; done) | (simp; omega)) _) | (with_reducible refine Bt ?_ (by assumption)) | (with_reducible refine Bt ?_ (Gr.below (by assumption)))))⟩
end Go.Proofs.YtahichjiphjapaaGreatDoor

/-
  Package near: right, centre, dist2, gap2.
-/
namespace Go.Proofs.YtahichjiphjapaaGreatDoor
set_option linter.unusedSimpArgs false
set_option linter.unusedVariables false
open Go.RowKit Go.Sort Go.Lib Go.Shelf

theorem place_has (x y : Int) : phasB (-1048576) (-1048576) 1048576 1048576 x y = placeB (x, y) := by
  unfold phasB
  rw [show rightB (-1048576) (-1048576) 1048576 1048576 = true from by decide, Bool.eq_iff_iff]
  simp only [placeB, inM, btw, Bool.true_and, Bool.and_eq_true, decide_eq_true_eq]
  omega
theorem place_bd {x y : Int} (h : placeB (x, y) = true) : (-1048576 ≤ x ∧ x ≤ 1048576) ∧ -1048576 ≤ y ∧ y ≤ 1048576 := by
  simp only [placeB, inM, Bool.and_eq_true, decide_eq_true_eq] at h
  omega
theorem place_reach {x y : Int} (h : placeB (x, y) = true) : reachB x y = true := by
  have := place_bd h
  simp [reachB, bothB, btw]
  omega
set_option maxHeartbeats 1000000 in
theorem nright_call (x y : Int) (w : World) : Calls Tryz.prog 26 #[.agg #[.int .i64 x, .int .i64 y]] w fun e w' => e = .returned (.bool (placeB (x, y))) ∧ RowKit.Below w.heap.size w w' := by
  have PH := Lib.hid (fun W => phas_any (-1048576) (-1048576) 1048576 1048576 x y W)
  rw [place_has] at PH
  go_enter Tryz.func26, Tryz.ntmps26
  go_wp2_with fail
  refine (PH.out _).mono ?_
  rintro e w1 ⟨rfl, hb1⟩
  go_wp2
  go_ret
  exact ⟨rfl, (by repeat (first | with_reducible exact Below.refl _ _ | with_reducible assumption | with_reducible apply Ba | with_reducible apply Bd | with_reducible apply Bn | with_reducible apply Bg | (with_reducible refine Bs ?_ (by first | (simp; done) | (simp; omega)) _) | (with_reducible refine Bt ?_ (by assumption)) | (with_reducible refine Bt ?_ (Gr.below (by assumption)))))⟩
set_option maxHeartbeats 1000000 in
theorem ncentre_call (a b c d : Int) (w : World) (h : okR (a, b, c, d) = true) : Calls Tryz.prog 39 #[.agg #[.int .i64 a, .int .i64 b, .int .i64 c, .int .i64 d]] w fun e w' => e = .returned (.agg #[.int .i64 (ctrB (a, b, c, d)).1, .int .i64 (ctrB (a, b, c, d)).2]) ∧ RowKit.Below w.heap.size w w' := by
  have CY := Lib.hid (fun W => centre_yes a b c d W ((right_okR _ _ _ _).trans h))
  unfold ctrB halfI
  dsimp only
  generalize (a + c) / 2 = m at *
  generalize (b + d) / 2 = n at *
  go_enter Tryz.func39, Tryz.ntmps39
  go_wp2_with fail
  refine (CY.out _).mono ?_
  rintro e w1 ⟨rfl, hb1⟩
  obtain ⟨k1, k2⟩ := three_blk (w := w) (o1 := .cells #[.int .i64 a, .int .i64 b, .int .i64 c, .int .i64 d] 45) (o2 := .cells #[.int .i64 0, .int .i64 0] 24) hb1
  have B1 := Lib.hid (Bt (Ba (Ba (Below.refl _ w) (.cells #[.int .i64 a, .int .i64 b, .int .i64 c, .int .i64 d] 45)) (.cells #[.int .i64 0, .int .i64 0] 24)) hb1)
  obtain ⟨c1, c2, f1, f2⟩ := two_cells k2
  have hl := cell_lt c1
  clear hb1 k1 k2
  go_wp2
  exact bodyPost_ret (v := .agg #[.int .i64 m, .int .i64 n]) (by simp [results, Tryz.results39, go_sem, *]) rfl ⟨rfl, (by have := B1.out; exact (by repeat (first | with_reducible exact Below.refl _ _ | with_reducible assumption | with_reducible apply Ba | with_reducible apply Bd | with_reducible apply Bn | with_reducible apply Bg | (with_reducible refine Bs ?_ (by first | (simp; done) | (simp; omega)) _) | (with_reducible refine Bt ?_ (by assumption)) | (with_reducible refine Bt ?_ (Gr.below (by assumption))))))⟩
theorem ctr_reach {b : Bx4} (hR : okR b = true) : reachB (ctrB b).1 (ctrB b).2 = true := by
  have := okR_iff.1 hR
  unfold ctrB halfI
  simp [reachB, bothB, btw]
  omega
set_option maxHeartbeats 1000000 in
theorem ndist_call (x y a b c d : Int) (w : World) (hp : reachB x y = true) (h : okR (a, b, c, d) = true) : Calls Tryz.prog 56 #[.agg #[.int .i64 x, .int .i64 y], .agg #[.int .i64 a, .int .i64 b, .int .i64 c, .int .i64 d]] w fun e w' => e = .returned (.int .i64 (sqI (x, y) (ctrB (a, b, c, d)))) ∧ RowKit.Below w.heap.size w w' := by
  have CY := Lib.hid (fun W => ncentre_call a b c d W h)
  have DY := Lib.hid (fun W => dist_yes x y (ctrB (a, b, c, d)).1 (ctrB (a, b, c, d)).2 W hp (ctr_reach h))
  have e : sqI (x, y) ((ctrB (a, b, c, d)).1, (ctrB (a, b, c, d)).2) = sqI (x, y) (ctrB (a, b, c, d)) := rfl
  rw [e] at DY
  clear e
  generalize sqI (x, y) (ctrB (a, b, c, d)) = D at *
  generalize ctrB (a, b, c, d) = q at *
  obtain ⟨q1, q2⟩ := q
  dsimp only at CY DY
  have mixed : Tryz.prog.follows .mixedOrders = true := by kernel_rfl
  go_enter Tryz.func56, Tryz.ntmps56
  go_wp2_with fail
  refine wp_region_held_drew (S := (fun w' => Below ((w.alloc (.cells #[.int .i64 x, .int .i64 y] 24)).alloc (.cells #[.int .i64 a, .int .i64 b, .int .i64 c, .int .i64 d] 45)).heap.size ((w.alloc (.cells #[.int .i64 x, .int .i64 y] 24)).alloc (.cells #[.int .i64 a, .int .i64 b, .int .i64 c, .int .i64 d] 45)) w' ∧ ∀ b_1 o, b_1 < ((w.alloc (.cells #[.int .i64 x, .int .i64 y] 24)).alloc (.cells #[.int .i64 a, .int .i64 b, .int .i64 c, .int .i64 d] 45)).heap.size → w'.cell? ⟨b_1, o, none⟩ = ((w.alloc (.cells #[.int .i64 x, .int .i64 y] 24)).alloc (.cells #[.int .i64 a, .int .i64 b, .int .i64 c, .int .i64 d] 45)).cell? ⟨b_1, o, none⟩)) (by kernel_rfl) (keep0 _) (fun hHeld => ?_)
  (refine wpAnyH_take (i := 0) (v := ?_) rfl (by kernel_rfl) (by kernel_rfl) (by kernel_rfl) (fun _ _ _ h => h) (Or.inl ⟨by rfl, ?rt⟩) (by assumption) ?_; case rt => (intro w hSw; (try dsimp only at hSw); go_simp; (try with_reducible rfl))); (try simp only [Act.put, List.getElem_toArray, List.getElem_cons_succ, List.getElem_cons_zero, List.setIfInBounds_toArray, List.set_cons_zero, List.set_cons_succ])
  (refine wpAnyH_take (i := 1) (v := ?_) rfl (by kernel_rfl) (by kernel_rfl) (by kernel_rfl) (fun _ _ _ h => h) (Or.inl ⟨by rfl, ?rt⟩) (by assumption) ?_; case rt => (intro w hSw; (try dsimp only at hSw); go_simp; (try with_reducible rfl))); (try simp only [Act.put, List.getElem_toArray, List.getElem_cons_succ, List.getElem_cons_zero, List.setIfInBounds_toArray, List.set_cons_zero, List.set_cons_succ])
  (refine wpAnyH_ready (rs := [2]) (by kernel_rfl) (by simp) ?_; refine AllReadyH.cons rfl (fun K hK => ?_) AllReadyH.nil; go_simp; refine (CY.out _).mono ?_; rintro e w1 ⟨rfl, hb1⟩; refine hK.out _ _ (keepB (by assumption) hb1) (fun hHeld => ?_); clear hK K); (try simp only [Act.put, List.getElem_toArray, List.getElem_cons_succ, List.getElem_cons_zero, List.setIfInBounds_toArray, List.set_cons_zero, List.set_cons_succ])
  (refine wpAnyH_ready (rs := [3]) (by kernel_rfl) (by simp) ?_; refine AllReadyH.cons rfl (fun K hK => ?_) AllReadyH.nil; go_simp; refine (DY.out _).mono ?_; rintro e w1 ⟨rfl, hb1⟩; refine hK.out _ _ (keepB (by assumption) hb1) (fun hHeld => ?_); clear hK K); (try simp only [Act.put, List.getElem_toArray, List.getElem_cons_succ, List.getElem_cons_zero, List.setIfInBounds_toArray, List.set_cons_zero, List.set_cons_succ])
  (refine wpAnyH_take (i := 4) (v := ?_) rfl (by kernel_rfl) (by kernel_rfl) (by kernel_rfl) (fun _ _ _ h => h) (Or.inl ⟨by rfl, ?rt⟩) (by assumption) ?_; case rt => (intro w hSw; (try dsimp only at hSw); go_simp; (try with_reducible rfl))); (try simp only [Act.put, List.getElem_toArray, List.getElem_cons_succ, List.getElem_cons_zero, List.setIfInBounds_toArray, List.set_cons_zero, List.set_cons_succ])
  (refine wpAnyH_take (i := 5) (v := ?_) rfl (by kernel_rfl) (by kernel_rfl) (by kernel_rfl) (fun _ _ _ h => h) (Or.inl ⟨by rfl, ?rt⟩) (by assumption) ?_; case rt => (intro w hSw; (try dsimp only at hSw); go_simp; (try with_reducible rfl))); (try simp only [Act.put, List.getElem_toArray, List.getElem_cons_succ, List.getElem_cons_zero, List.setIfInBounds_toArray, List.set_cons_zero, List.set_cons_succ])
  (refine wpAnyH_take (i := 6) (v := ?_) rfl (by kernel_rfl) (by kernel_rfl) (by kernel_rfl) (fun _ _ _ h => h) (Or.inl ⟨by rfl, ?rt⟩) (by assumption) ?_; case rt => (intro w hSw; (try dsimp only at hSw); go_simp; (try with_reducible rfl))); (try simp only [Act.put, List.getElem_toArray, List.getElem_cons_succ, List.getElem_cons_zero, List.setIfInBounds_toArray, List.set_cons_zero, List.set_cons_succ])
  (refine wpAnyH_take (i := 7) (v := ?_) rfl (by kernel_rfl) (by kernel_rfl) (by kernel_rfl) (fun _ _ _ h => h) (Or.inl ⟨by rfl, ?rt⟩) (by assumption) ?_; case rt => (intro w hSw; (try dsimp only at hSw); go_simp; (try with_reducible rfl))); (try simp only [Act.put, List.getElem_toArray, List.getElem_cons_succ, List.getElem_cons_zero, List.setIfInBounds_toArray, List.set_cons_zero, List.set_cons_succ])
  (refine wpAnyH_take (i := 8) (v := ?_) rfl (by kernel_rfl) (by kernel_rfl) (by kernel_rfl) (fun _ _ _ h => h) (Or.inl ⟨by rfl, ?rt⟩) (by assumption) ?_; case rt => (intro w hSw; (try dsimp only at hSw); go_simp; (try with_reducible rfl))); (try simp only [Act.put, List.getElem_toArray, List.getElem_cons_succ, List.getElem_cons_zero, List.setIfInBounds_toArray, List.set_cons_zero, List.set_cons_succ])
  refine wpAnyH_done (by kernel_rfl) ?_ _
  go_wp2
  go_ret
  exact ⟨rfl, (by repeat (first | with_reducible exact Below.refl _ _ | with_reducible assumption | with_reducible apply Ba | with_reducible apply Bd | with_reducible apply Bn | with_reducible apply Bg | (with_reducible refine Bs ?_ (by first | (simp; done) | (simp; omega)) _) | (with_reducible refine Bt ?_ (by assumption)) | (with_reducible refine Bt ?_ (Gr.below (by assumption)))))⟩
theorem loose_sq {k : Nat} {c2 c3 : Int} (hr : rightC ((k : Int), c2, c3) = true) :
    ∃ t, ((looseC ((k : Int), c2, c3)).2.2.1 - (looseC ((k : Int), c2, c3)).1).tdiv 4 = t ∧ 0 ≤ t ∧ t ≤ 4194304 ∧ okR (sqC ((k : Int), c2, c3)) = true ∧
      sqC ((k : Int), c2, c3) = ((looseC ((k : Int), c2, c3)).1 + t, (looseC ((k : Int), c2, c3)).2.1 + t, (looseC ((k : Int), c2, c3)).2.2.1 - t, (looseC ((k : Int), c2, c3)).2.2.2 - t) := by
  unfold rightC at hr
  simp only [Bool.and_eq_true, decide_eq_true_eq, Int.toNat_natCast] at hr
  have hd : k ≤ 8 := by omega
  obtain ⟨m1, m2⟩ := side_mul hd (x := c2) (by omega) (by omega)
  obtain ⟨n1, n2⟩ := side_mul hd (x := c3) (by omega) (by omega)
  have m3 : c2 * sideI k + sideI k ≤ 4194304 := by
    have := Int.mul_le_mul_of_nonneg_right (show c2 + 1 ≤ pwI k by omega) (show 0 ≤ sideI k by have := side_pw hd; omega)
    rw [Int.mul_comm (pwI k), (side_pw hd).1, Int.add_mul] at this
    omega
  have n3 : c3 * sideI k + sideI k ≤ 4194304 := by
    have := Int.mul_le_mul_of_nonneg_right (show c3 + 1 ≤ pwI k by omega) (show 0 ≤ sideI k by have := side_pw hd; omega)
    rw [Int.mul_comm (pwI k), (side_pw hd).1, Int.add_mul] at this
    omega
  have he := side_even hd
  obtain ⟨_, s2, s3, s4, s5⟩ := side_pw hd
  rw [okR_iff]
  unfold looseC sqC
  dsimp only
  simp only [Int.toNat_natCast]
  generalize sideI k = s at *
  generalize c2 * s = m at *
  generalize c3 * s = n at *
  generalize s / 2 = t at *
  refine ⟨t, ?_, by omega, by omega, by omega, ?_⟩
  · rw [Int.tdiv_eq_ediv_of_nonneg (by omega)]
    omega
  · refine Prod.ext ?_ (Prod.ext ?_ (Prod.ext ?_ ?_)) <;> dsimp only <;> omega
set_option maxHeartbeats 2000000 in
theorem ngap_call (x y : Int) (k : Nat) (c2 c3 : Int) (w : World) (hp : reachB x y = true) (hr : rightC ((k : Int), c2, c3) = true) :
    Calls Tryz.prog 54 #[.agg #[.int .i64 x, .int .i64 y], clV ((k : Int), c2, c3)] w fun e w' => e = .returned (.int .i64 (gapI (x, y) (sqC ((k : Int), c2, c3)))) ∧ RowKit.Below w.heap.size w w' := by
  have LC := Lib.hid (fun W => qLoose_call (k : Int) c2 c3 W hr)
  have HLO := okR_iff.1 (ok_loose hr)
  obtain ⟨t, ht, ht0, ht1, hq, hsq⟩ := loose_sq hr
  generalize looseC ((k : Int), c2, c3) = l at *
  generalize sqC ((k : Int), c2, c3) = q at *
  obtain ⟨l1, l2, l3, l4⟩ := l
  dsimp only at ht hsq HLO
  subst hsq
  have hq2 := okR_iff.1 hq
  dsimp only at hq2
  have GY := Lib.hid (fun W => gap_yes x y (l1 + t) (l2 + t) (l3 - t) (l4 - t) W hp ((right_okR _ _ _ _).trans hq))
  generalize gapI (x, y) (l1 + t, l2 + t, l3 - t, l4 - t) = D at *
  clear hq
  go_enter Tryz.func54, Tryz.ntmps54
  go_wp2_with fail
  refine (LC.out _).mono ?_
  rintro e w1 ⟨rfl, hb1⟩
  obtain ⟨k1, -⟩ := three_blk (w := w) (o1 := .cells #[.int .i64 x, .int .i64 y] 24) (o2 := .cells #[.int .i64 k, .int .i64 c2, .int .i64 c3] 87) hb1
  have B1 := Lib.hid (Bt (Ba (Ba (Below.refl _ w) (.cells #[.int .i64 x, .int .i64 y] 24)) (.cells #[.int .i64 k, .int .i64 c2, .int .i64 c3] 87)) hb1)
  obtain ⟨p1, p2, -⟩ := two_cells k1
  have hl := cell_lt p1
  have hdiv : (l3 - l1).tdiv 4 = t := ht
  clear hb1 k1
  unfold bxV
  dsimp only
  go_wp2_with fail
  refine (GY.out _).mono ?_
  rintro e w2 ⟨rfl, hb2⟩
  have B2 := Lib.hid (by have := B1.out; exact (by repeat (first | with_reducible exact Below.refl _ _ | with_reducible assumption | with_reducible apply Ba | with_reducible apply Bd | with_reducible apply Bn | with_reducible apply Bg | (with_reducible refine Bs ?_ (by first | (simp; done) | (simp; omega)) _) | (with_reducible refine Bt ?_ (by assumption)) | (with_reducible refine Bt ?_ (Gr.below (by assumption))))) : RowKit.Below w.heap.size w w2)
  clear hb2
  go_wp2
  go_ret
  exact ⟨rfl, B2.out⟩
end Go.Proofs.YtahichjiphjapaaGreatDoor
